"""The refusals of the program."""


class PurseError(ValueError):
    pass


class NoGift(PurseError):
    pass


class Unlike(PurseError):
    pass


class Gap(PurseError):
    def __init__(self, at):
        self.at = at


class NoText(PurseError):
    pass
