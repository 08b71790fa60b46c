"""What is to be let go, by the states of the houses that stood still."""

from farhold.reaching import reached


def unreached(states):
    weights = recorded(states)
    holds = {}
    starts = []
    for state in states.values():
        starts.extend(state[0])
        for thing, out, held in state[1]:
            holds[thing] = held
            # Weight that is in none of these records is elsewhere, and somebody there may lead to the thing.
            if out != weights.get(thing, 0):
                starts.append(thing)
    kept = reached(starts, holds)
    return tuple([thing for thing in sorted(holds) if thing not in kept])


def recorded(states):
    weights = {}
    for state in states.values():
        for thing, weight in state[2]:
            weights[thing] = weights.get(thing, 0) + weight
    return weights
