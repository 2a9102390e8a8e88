"""The refusals of the program."""


class HallError(ValueError):
    pass


class Barred(HallError):
    def __init__(self, push, step):
        HallError.__init__(self, f"push {push} can not be at its step {step}")
        self.push = push
        self.step = step


class TooMany(HallError):
    pass


class NoRoom(HallError):
    pass


class NoStand(HallError):
    pass


class BadRow(HallError):
    def __init__(self, row):
        HallError.__init__(self, f"row {row} is not as it must be")
        self.row = row
