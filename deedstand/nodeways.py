"""The nodes of a sheet, and the ways between them."""

from deedstand.kinds import is_number
from deedstand.splicing import spliced
from deedstand.stands import turned


def is_node(nodes, thing):
    """Return whether thing, any value, is the number of a node."""
    return is_number(thing) and thing < len(nodes)


def is_edit(nodes, thing):
    """Return whether thing, any value, is the number of an edit node."""
    return is_node(nodes, thing) and nodes[thing][0] == "edit"


def parent_of(nodes, node):
    """Return the parent, None for the root."""
    if node == 0:
        return None
    return nodes[node][1]


def children_of(nodes, node):
    """Return the children, ascending."""
    return tuple([child for child in range(1, len(nodes)) if nodes[child][1] == node])


def path_of(nodes, node):
    """Return the nodes from the root to the node."""
    path = [node]
    while node > 0:
        node = nodes[node][1]
        path.append(node)
    return tuple(path[::-1])


def stand_at(nodes, node):
    """Return the stand at the node."""
    stand = 0
    for step in path_of(nodes, node)[1:]:
        if nodes[step][0] == "edit":
            stand = turned(stand, (step,))
        else:
            stand = turned(stand, nodes[step][2])
    return stand


def road_between(nodes, one, other):
    """Return the steps of the road from one node to another."""
    here = path_of(nodes, one)
    there = path_of(nodes, other)
    # The paths part once and do not meet again, so what they have in common stands at their beginnings.
    common = len([node for node, twin in zip(here, there) if node == twin])
    up = [("up", node) for node in reversed(here[common:])]
    down = [("down", node) for node in there[common:]]
    return tuple(up + down)


def replayed(nodes, node):
    """Return the text that the rounds of the path make, None if it has a turn node."""
    text = ""
    for step in path_of(nodes, node)[1:]:
        if nodes[step][0] == "turn":
            return None
        for splices in nodes[step][2]:
            text = spliced(text, splices)
    return text
