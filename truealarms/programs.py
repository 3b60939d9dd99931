"""Programs: tuples of one of five shapes. Their nodes are the program itself and all programs within it."""

from truealarms.errors import BadProgram

# How many items a tuple of each shape has.
SHAPES = {"step": 2, "nothing": 1, "behind": 3, "either": 3, "again": 2}
MOST_DEEP = 12
MOST_NODES = 60
MOST_AGAINS = 4


def _has_shape(thing):
    """Whether a thing of any kind is a tuple of one of the five shapes, whatever stands in it."""
    if not isinstance(thing, tuple) or len(thing) == 0 or not isinstance(thing[0], str):
        return False
    return SHAPES.get(thing[0]) == len(thing)


def inner_programs(node):
    """The programs that a node is built of, the left one first."""
    return () if node[0] == "step" else node[1:]


def _check_node(steps, node, agains):
    """Refuse a node with so many agains around it."""
    if not _has_shape(node):
        raise BadProgram("kind")
    if node[0] == "again" and agains == MOST_AGAINS:
        raise BadProgram("again")
    if node[0] == "step" and node[1] not in steps:
        raise BadProgram("name")


def check_program(steps, program):
    """Return a program over the steps."""
    waiting = [(program, 1, 0)]
    met = 0
    while waiting:
        node, deep, agains = waiting.pop()
        met += 1
        if deep > MOST_DEEP:
            raise BadProgram("deep")
        if met > MOST_NODES:
            raise BadProgram("long")
        _check_node(steps, node, agains)
        within = agains + 1 if node[0] == "again" else agains
        # The last one put in is taken first: so all in the left one comes ahead of the right one.
        for inner in inner_programs(node)[::-1]:
            waiting.append((inner, deep + 1, within))
    return program


def is_program(steps, thing):
    """Whether a thing of any kind is a program over the steps."""
    try:
        check_program(steps, thing)
    except BadProgram:
        return False
    return True


def nodes_of(program):
    """All nodes of a program, in reading order."""
    nodes = []
    waiting = [program]
    while waiting:
        node = waiting.pop()
        nodes.append(node)
        waiting.extend(inner_programs(node)[::-1])
    return nodes


def steps_in(program):
    """The names of the steps in a program, ascending."""
    return tuple(sorted(set([node[1] for node in nodes_of(program) if node[0] == "step"])))


def program_size(program):
    """How many nodes a program has."""
    return len(nodes_of(program))
