"""tickcounts: the numbers beside the boxes of a shop."""
