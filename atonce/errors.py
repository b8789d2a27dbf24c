"""The refusals, one class for each cause."""


class OrderError(ValueError):
    pass


class NoPlace(OrderError):
    pass


class NoSide(OrderError):
    pass


class Crowded(OrderError):
    pass


class NoUnit(OrderError):
    pass


class OutOfReach(OrderError):
    pass
