"""The refusals of the program."""


# Any refusal: who doesn't mind which one it is takes this one.
class FormError(ValueError):
    pass


# No form by its numbers, its words or its numbers of parts.
class NoForm(FormError):
    pass


# A form that has too many signs or goes too deep.
class TooMany(FormError):
    pass


# A list that should hold forms and holds none.
class NoForms(FormError):
    pass


# A text that writes no form.
class BadNote(FormError):
    pass
