"""How the weight of a record is parted for a letter."""


def parted(weight):
    # The half of 1 is nothing, and a letter without weight would keep nothing from being let go.
    if weight == 1:
        return (0, 1)
    goes = weight // 2
    return (weight - goes, goes)
