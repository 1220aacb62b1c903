"""Files put aside for a while, so that all moves of a lot can be made.

Steps take one course to the next. A course is a triple: the stand, the lot of the moves that are left, and the sorted
tuple of those whose files were put outside. Events of movings are such steps, too.
"""

from roomrings.ends import need_end
from roomrings.goers import order_of
from roomrings.lotchecker import need_all
from roomrings.moving import goes
from roomrings.rings import inner_of
from roomrings.ways import counts_after, entered_between, parents_of, without_one


def fewest_aside(tree, stand, lot):
    """The least number of files that have to be put aside."""
    need_all(tree, stand, lot)
    need_end(tree, stand, lot)
    return len(inner_of(tree, stand, lot))


def aside_plan(tree, stand, lot):
    """Any plan of a lot in which so few files are put aside."""
    need_all(tree, stand, lot)
    need_end(tree, stand, lot)
    return plan_of(tree, stand, lot)


def plan_of(tree, stand, lot):
    """A plan of a lot whose end fits: for each inner ring a file of it is put outside, and then no ring is left."""
    parents = parents_of(tree)
    away = [entry_of(parents, lot, ring) for ring in inner_of(tree, stand, lot)]
    rest = lot
    for move in away:
        rest = without_one(rest, move)
        stand = counts_after(tree, stand, [(move[0], "")])
    # a target tells whose file comes back there: no two inner rings have a spot in common,
    # and no move of the lot comes from outside to a spot within one
    sources = {target: source for source, target in away}
    order = order_of(tree, stand, [*rest, *[("", target) for target in sources]])
    return tuple([("out", source, target) for source, target in away] + [step_of(move, sources) for move in order])


def entry_of(parents, moves, ring):
    """The first of these moves that enters a folder of a ring."""
    first = [move for move in moves if meets_ring(parents, move, ring)]
    return first[0]


def meets_ring(parents, move, ring):
    """Whether a move enters a folder of a ring."""
    return any([name in ring for name in entered_between(parents, move[0], move[1])])


def step_of(move, sources):
    """The step of a move, or the one that brings the file that was put outside on its way to the same target."""
    source, target = move
    if source == "" and target in sources:
        return ("in", sources[target], target)
    return ("go", source, target)


def hindrance(tree, course, step):
    """The reason for which a step by form is not possible on a course, None for one that is."""
    stand, left, away = course
    word, source, target = step
    if (source, target) not in (away if word == "in" else left):
        return "none"
    if word == "out" and "" in (source, target):
        return "none"
    return None if goes(tree, stand, way_taken(step)) else "room"


def course_after(tree, course, step):
    """The course after a step that is possible."""
    stand, left, away = course
    word, source, target = step
    if word == "in":
        away = without_one(away, (source, target))
    else:
        left = without_one(left, (source, target))
    if word == "out":
        away = tuple(sorted([*away, (source, target)]))
    return (counts_after(tree, stand, [way_taken(step)]), left, away)


def way_taken(step):
    """The move that the file makes in a step."""
    word, source, target = step
    if word == "out":
        return (source, "")
    if word == "in":
        return ("", target)
    return (source, target)


def rest_of(course):
    """The lot of all that is to be done yet: the moves that are left, and those that bring what was put outside."""
    left, away = course[1:]
    return tuple(sorted([*left, *[("", target) for _, target in away]]))
