"""The text of a shop, as in "hue or many: red blue / size and one: s m"."""

from tickcounts.errors import InvalidItem, InvalidList, InvalidText
from tickcounts.shops import Shop, need_shop


def text_of(shop):
    """The text of a shop."""
    need_shop(shop)
    return " / ".join([f"{name} {mode} {bears}: " + " ".join(boxes) for name, mode, bears, boxes in shop.layout])


def read_shop(text):
    """The shop of a text."""
    if not isinstance(text, str):
        raise InvalidText(text)
    groups = [read_group(piece) for piece in text.split("/")]
    try:
        return Shop(groups)
    except (InvalidList, InvalidItem):
        raise InvalidText(text) from None


def read_group(piece):
    """What stands between two "/" as the tuple of a group, if it can be one; None unless it has just one ":"."""
    sides = [words_of(side) for side in piece.split(":")]
    return (*sides[0], sides[1]) if len(sides) == 2 else None


def words_of(side):
    """The list of what stands between blanks and line ends."""
    # split() would part at other kinds of white space, too.
    return [word for word in side.replace("\n", " ").split(" ") if word]
