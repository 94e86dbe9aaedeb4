"""Which states of a machine lead to which without a sign."""


def led_on(state, at_start, at_end):
    """Return the states to which a state leads without a sign."""
    kind = state[0]
    if kind == "split" or (kind == "start" and at_start) or (kind == "finish" and at_end):
        return state[1:]
    return ()


def closed(machine, states, at_start, at_end):
    """Return the states, and all to which these lead without a sign, ascending."""
    found = set()
    due = list(states)
    while len(due) > 0:
        state = due.pop()
        if state not in found:
            found.add(state)
            due.extend(led_on(machine[state], at_start, at_end))
    return tuple(sorted(found))
