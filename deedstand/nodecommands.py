"""Commands about the nodes of a sheet, and what stands at them."""

from deedstand.errors import NoSuch


def go_to(scene, node):
    """Tell that the sheet goes to a node, and return it."""
    scene.desk.tell((("go", scene.number, node),))
    return node


def undo(scene, many):
    """Go up many steps."""
    sheet = scene.sheet()
    node = sheet.place
    for _ in range(many):
        if node == 0:
            raise NoSuch("node", 0)
        node = sheet.parent(node)
    return go_to(scene, node)


def redo(scene, child):
    """Go to a child, counted from 1, or to the youngest one for 0."""
    sheet = scene.sheet()
    children = sheet.children(sheet.place)
    if len(children) == 0 or child > len(children):
        raise NoSuch("child", child)
    return go_to(scene, children[child - 1])


def tell_turn(scene, deeds):
    """Tell that deeds are turned at the place, and return the node."""
    scene.desk.tell((("turn", scene.number, scene.sheet().place, deeds),))
    return scene.sheet().place


def strike(scene, deed):
    """Strike a deed."""
    scene.sheet().trial().strike(deed)
    return tell_turn(scene, (deed,))


def stand_up(scene, deed):
    """Stand a deed up."""
    scene.sheet().trial().stand_up(deed)
    return tell_turn(scene, (deed,))


def turn(scene, deeds):
    """Turn deeds."""
    return tell_turn(scene, deeds)


def fell(scene, deed):
    """Fell a deed, and return the deeds that fall."""
    deeds = scene.sheet().trial().fell(deed)
    tell_turn(scene, deeds)
    return deeds


def touching(scene, deed):
    """Return the deeds touching a deed."""
    return scene.sheet().touching(deed)


def turnable(scene):
    """Return the deeds that can be turned alone."""
    return scene.sheet().turnable()


def standing(scene):
    """Return the deeds that stand."""
    return scene.sheet().standing()


def node_many(scene):
    """Return how many nodes there are."""
    return len(scene.sheet().nodes)


def place(scene):
    """Return the place."""
    return scene.sheet().place


NODE_COMMANDS = {
    "undo": undo,
    "redo": redo,
    "go": go_to,
    "strike": strike,
    "stand": stand_up,
    "turn": turn,
    "fell": fell,
    "touching": touching,
    "turnable": turnable,
    "standing": standing,
    "nodes": node_many,
    "place": place,
}
