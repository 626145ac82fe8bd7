"""Whether rules keep their promises for all stores and all ticks of a shop, with a least store that breaks one if not.

A number of things is a sum over the items, so that if any store breaks a promise,
one item does. Where models are counted, items of one model can hide each other:
only for this there are examples of two and of three items.
"""

from tickcounts.rules import Rule, counted, need_rule
from tickcounts.scenes import Scene, scenes, steps, views
from tickcounts.shops import copy_rows, need_shop
from tickcounts.tallies import lowest, without


def unlike(shop, rule, other):
    """None if two rules always show the same numbers, else (store, ticks, group, box) where they don't."""
    need_shop(shop)
    need_rules(rule, other)
    for scene, view, box in spots(shop):
        up, down = shown_bits(scene, view, rule, box)
        other_up, other_down = shown_bits(scene, view, other, box)
        apart = (up ^ other_up) | (down ^ other_down)
        if apart:
            return (*example(scene, view, [lowest(apart)]), scene.group, box)
    return None if rule.counts == other.counts else shown_twice(shop, rule)


def shown_twice(shop, rule):
    """An example of unlike with an item that makes a number other than 0, put twice: two things, but one model."""
    for scene, view, box in spots(shop):
        up, down = shown_bits(scene, view, rule, box)
        if up | down:
            place = lowest(up | down)
            return (*example(scene, view, [place, place]), scene.group, box)
    return None


def click_right(shop, rule):
    """None if unticked boxes always show what is found once they are ticked, else (store, ticks, group, box)."""
    need_shop(shop)
    need_rule(rule)
    for scene, view, box in spots(shop):
        if box not in view.ticked[scene.at]:
            up, down = shown_bits(scene, view, rule, box)
            apart = (up ^ found_behind(scene, view, box)) | down
            if apart:
                return (*example(scene, view, [lowest(apart)]), scene.group, box)
    return None


def nought_right(shop, rule):
    """None if unticked boxes that show 0 always find nothing once they are ticked, else (store, ticks, group, box)."""
    need_shop(shop)
    need_rule(rule)
    for scene, view, box in spots(shop):
        if box not in view.ticked[scene.at]:
            up, down = shown_bits(scene, view, rule, box)
            apart = without(found_behind(scene, view, box), up | down)
            if apart:
                return (*example(scene, view, [lowest(apart)]), scene.group, box)
    return None


def falling(shop, rule):
    """None if no tick more makes a shown number greater, else (store, ticks, more, group, box)."""
    need_shop(shop)
    need_rule(rule)
    for scene in scenes(shop):
        for ahead, behind, more in steps(scene):
            for box in scene.few:
                up, down = shown_bits(scene, ahead, rule, box)
                later_up, later_down = shown_bits(scene, behind, rule, box)
                grown = without(later_up, up) | without(down, later_down)
                if grown:
                    return (*example(scene, ahead, [lowest(grown)]), more, scene.group, box)
    return None


def sum_right(shop, rule, group):
    """None if the numbers of a group always add up to what is found, else (store, ticks)."""
    need_shop(shop)
    need_rule(rule)
    boxes = shop.boxes(group)
    scene = Scene(shop.layout, shop.names().index(group))
    for view in views(scene):
        told = [shown_bits(scene, view, rule, box) for box in boxes]
        found = view.found()
        for place in range(len(scene.kinds)):
            total = sum([(up >> place & 1) - (down >> place & 1) for up, down in told])
            if total != (found >> place & 1):
                return example(scene, view, [place])
    return None if rule.counts == "things" else found_once(scene, rule, boxes)


def found_once(scene, rule, boxes):
    """An example of sum_right with items counted beside unlike boxes, but found as one model."""
    for view in views(scene):
        lots = [counted(view, rule, scene.at, box) for box in boxes]
        places = [lowest(bits) for bits in lots if bits]
        if len(places) > 1:
            return example(scene, view, places[:2])
    return None


def same_order(shop, rule, other):
    """None if two rules always put boxes in the same order, else (store, ticks, group, box, second)."""
    need_shop(shop)
    need_rules(rule, other)
    told = order_by_one(shop, rule, other)
    if told is not None or rule.counts == other.counts:
        return told
    told = order_by_two(shop, rule)
    return order_by_three(shop, rule) if told is None else told


def order_by_one(shop, rule, other):
    """An example of same_order with one item; what less takes off is the same beside both boxes."""
    for scene, view, box, second in pairs(shop):
        apart = lone_bits(scene, view, rule, box, second) ^ lone_bits(scene, view, other, box, second)
        if apart:
            return (*example(scene, view, [lowest(apart)]), scene.group, box, second)
    return None


def order_by_two(shop, rule):
    """An example of same_order with two items of one model, for rules that differ by no item alone but in counts.

    Such rules count the same items, if any beside one box alone. With one that they count
    beside both boxes it makes two things against one, but one model against one.
    """
    for scene, view, box, second in pairs(shop):
        lone = lone_bits(scene, view, rule, box, second)
        both = counted(view, rule, scene.at, box) & counted(view, rule, scene.at, second)
        if lone and both:
            return (*example(scene, view, [lowest(lone), lowest(both)]), scene.group, box, second)
    return None


def order_by_three(shop, rule):
    """An example of same_order with three items of one model, where the rules of order_by_two have none with two.

    Two items beside the one box alone and one beside the other make the same numbers.
    """
    for scene, view, box, second in pairs(shop):
        lone = lone_bits(scene, view, rule, box, second)
        contrary = lone_bits(scene, view, rule, second, box)
        if lone and contrary:
            places = [lowest(lone), lowest(lone), lowest(contrary)]
            return (*example(scene, view, places), scene.group, box, second)
    return None


def need_rules(rule, other):
    """Raise InvalidRule with the first of two values that is no rule."""
    need_rule(rule)
    need_rule(other)


def spots(shop):
    """Each scene of a shop with each of its views and boxes."""
    for scene in scenes(shop):
        for view in views(scene):
            for box in scene.few:
                yield scene, view, box


def pairs(shop):
    """Each scene of a shop with two boxes, with each of its views, and with the boxes in both orders."""
    for scene in scenes(shop):
        if len(scene.few) == 2:
            for view in views(scene):
                yield scene, view, scene.few[0], scene.few[1]
                yield scene, view, scene.few[1], scene.few[0]


def shown_bits(scene, view, rule, box):
    """The items that add 1 to the number that a rule shows beside a box, and those that take 1 off."""
    added = counted(view, rule, scene.at, box)
    if not rule.less:
        return added, 0
    found = view.found()
    return without(added, found), without(found, added)


def lone_bits(scene, view, rule, box, second):
    """The items that a rule counts beside a box and not beside a second one."""
    return without(counted(view, rule, scene.at, box), counted(view, rule, scene.at, second))


def found_behind(scene, view, box):
    """The items that are found once a box is ticked besides."""
    return counted(view, Rule("add", "keep", False, "things", False), scene.at, box)


def example(scene, view, places):
    """The store of the items at some places and the ticks, free to be handed out."""
    return scene.store_of(places), copy_rows(view.ticked)
