"""The refusals: one class for each, all of them straight under LeadError."""


class LeadError(ValueError):
    pass


class NoAsker(LeadError):
    pass


class NoPath(LeadError):
    pass


class NoName(LeadError):
    pass


class NoRights(LeadError):
    pass


class NoText(LeadError):
    pass


class NoTree(LeadError):
    pass


class NoThing(LeadError):
    pass


class NoHold(LeadError):
    pass


class NoRow(LeadError):
    pass


class NoWay(LeadError):

    def __init__(self, told):
        self.told = told


class NoDeed(LeadError):

    def __init__(self, reason):
        self.reason = reason
