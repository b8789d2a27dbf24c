"""Settling: which moves can stand together, and which of them are done."""

from atonce.force import firmness, force, force_against

# The numbers under which the strikes tell what stands in a move's way.
FREE = 0
RIVAL = 1
FACED = 2
HELD = 3


# Each unit is weighed once, since every move is held against all its rivals.
def weigh_movers(orders):
    forces = {}
    for at in orders.movers():
        forces[at] = force(orders, at)
    return forces


def is_outdone(orders, forces, at):
    goal = orders.goal_of(at)
    rivals = [other for other in forces if other != at and orders.goal_of(other) == goal]
    return any([forces[other] >= forces[at] for other in rivals])


def overcomes(orders, at, goal, strength):
    side = orders.board.side_at(goal)
    return side != orders.board.side_at(at) and force_against(orders, at, side) > strength


def hindrance(orders, forces, at):
    goal = orders.goal_of(at)
    if is_outdone(orders, forces, at):
        return RIVAL
    if orders.board.side_at(goal) is None:
        return FREE
    if orders.goal_of(goal) == at:
        return FREE if overcomes(orders, at, goal, forces[goal]) else FACED
    return FREE if overcomes(orders, at, goal, firmness(orders, goal)) else HELD


# Told as if the unit in each move's goal stayed. Nothing but the third depends on which other moves are of a
# set, so that all else is found once and not anew in each round.
def hindrances(orders):
    forces = weigh_movers(orders)
    found = {}
    for at in forces:
        found[at] = hindrance(orders, forces, at)
    return found


def fault(orders, found, at, places):
    if found[at] == HELD and orders.goal_of(at) in places:
        return FREE
    return found[at]


def can_stand(orders, places):
    found = hindrances(orders)
    return all([fault(orders, found, at, places) == FREE for at in places])


def strikes(orders):
    found = hindrances(orders)
    left = orders.movers()
    struck = []
    count = 1
    while True:
        faults = [(count, at, fault(orders, found, at, left)) for at in left]
        fallen = [row for row in faults if row[2] != FREE]
        if fallen == []:
            return struck
        struck.extend(fallen)
        left = [row[1] for row in faults if row[2] == FREE]
        count = count + 1


def settled(orders):
    struck = [row[1] for row in strikes(orders)]
    return [at for at in orders.movers() if at not in struck]
