"""Force: which helps count, and how strong they make the units."""


def is_cut(orders, at):
    order = orders.told(at)
    if order[0] != "help":
        return False
    own = orders.board.side_at(at)
    comers = [foe for foe in orders.movers() if orders.goal_of(foe) == at and orders.board.side_at(foe) != own]
    # A unit that stands in the help's goal does not cut the help that goes against it.
    return any([foe != order[2] for foe in comers])


def fits(orders, helped, goal):
    if goal == helped:
        return orders.goal_of(helped) is None
    return orders.goal_of(helped) == goal


def counts(orders, at):
    order = orders.told(at)
    return order[0] == "help" and fits(orders, order[1], order[2]) and not is_cut(orders, at)


def backs(orders, helper, at):
    order = orders.told(helper)
    return order[0] == "help" and order[1] == at and counts(orders, helper)


# The sides of the helpers, one for each help. A help that counts fits the one order of the helped unit, so
# that the helps need not be told apart any further: they are all to move, or all to stand.
def backing(orders, at):
    return [side for helper, side in orders.board.roll() if backs(orders, helper, at)]


def force(orders, at):
    if orders.goal_of(at) is None:
        return 0
    return 1 + len(backing(orders, at))


def force_against(orders, at, side):
    if orders.goal_of(at) is None:
        return 0
    return 1 + len([backer for backer in backing(orders, at) if backer != side])


def firmness(orders, at):
    if orders.goal_of(at) is not None:
        return 1
    return 1 + len(backing(orders, at))
