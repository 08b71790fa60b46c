"""Which things are reached from others, going by holds."""


def reached(starts, holds):
    # Only things that holds tells of count; a loop and not a recursion, as a chain of holds may be long.
    found = {}
    ahead = [thing for thing in starts if thing in holds]
    while ahead:
        thing = ahead.pop()
        if thing not in found:
            found[thing] = True
            ahead.extend([held for held in holds[thing] if held in holds])
    return found
