"""Programs in which one form is left open."""

from evenkeeps.errors import InvalidText, ProgramError
from evenkeeps.evenness import is_even
from evenkeeps.forms import all_forms, form_text
from evenkeeps.samplers import Sampler

MARK = "?"
ANY_FORM = "-9"


def fillings(text):
    """The ascending tuple of the texts of all forms with which the text is that of a sampler."""
    return tuple([form for form, sampler in filled(text)])


def even_fillings(text):
    """The ascending tuple of the texts of all forms with which it is that of an even sampler."""
    return tuple([form for form, sampler in filled(text) if is_even(sampler)])


def filled(text):
    """The pairs (text of a form, sampler with this form in the gap), in the order of the texts."""
    if not isinstance(text, str) or text.count(MARK) != 1:
        raise InvalidText(text)
    if not is_made_of_lines(text.replace(MARK, ANY_FORM)):
        raise InvalidText(text)
    forms = sorted([form_text(form) for form in all_forms()])
    pairs = [(form, sampler_or_none(text.replace(MARK, form))) for form in forms]
    return [(form, sampler) for form, sampler in pairs if sampler is not None]


def is_made_of_lines(text):
    """Whether the text has the form of a sampler's text, whatever else may be wrong with it."""
    try:
        sampler_or_none(text)
    except InvalidText:
        return False
    return True


def sampler_or_none(text):
    """The sampler with this text, None if the program does not meet the conditions."""
    try:
        return Sampler(text)
    except ProgramError:
        return None
