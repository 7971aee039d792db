"""The refusals of the program."""


# Any refusal: who takes this one takes them all.
class RankError(ValueError):
    pass


# What was handed in as a head is none.
class NoHead(RankError):
    pass


# There is no line of the kind that was asked for.
class NoLine(RankError):
    pass
