"""The refusals of the program."""


# Any refusal.
class YardError(ValueError):
    pass


# A yard can't have so many stalls.
class NoSize(YardError):
    pass


# The cart is in the yard already.
class Here(YardError):
    pass


# There is no room for one more.
class Full(YardError):
    pass


# The cart or name is not there.
class NoCart(YardError):
    pass


# The layout is not right by its rule.
class NotLaid(YardError):
    pass


# The two yards can't be joined.
class Unlike(YardError):
    pass


# The text is not a written yard.
class NotRead(YardError):
    pass
