"""The refusals of the program, each a class of its own straight under FormError."""


class FormError(ValueError):
    pass


class BadNumber(FormError):
    pass


class BadRow(FormError):
    pass


class BadCheck(FormError):
    pass


class NoKey(FormError):
    pass


class BadVersion(FormError):
    pass


class BadBook(FormError):
    def __init__(self, place, why):
        FormError.__init__(self, f"no book: {why} at form {place}")
        self.place = place
        self.why = why


class BadValue(FormError):
    def __init__(self, path):
        # A copy, since whoever raises this may go on with the list.
        own = list(path)
        FormError.__init__(self, f"no value at {own!r}")
        self.path = own


class BadText(FormError):
    def __init__(self, place):
        FormError.__init__(self, f"no such text at {place}")
        self.place = place


class BadWire(FormError):
    def __init__(self, place, why):
        FormError.__init__(self, f"no such row: {why} at byte {place}")
        self.place = place
        self.why = why


class NotKin(FormError):
    def __init__(self, form, number):
        FormError.__init__(self, f"not kin: form {form}, number {number}")
        self.form = form
        self.number = number
