"""What several tests need."""

ALL_SIGNS = [chr(code) for code in range(ord(" "), ord("~") + 1)]
SMALL_LETTERS = "abcdefghijklmnopqrstuvwxyz"


def place_by_form(form, text):
    # A beginning can be gone on with just where the form fits it, or it with a letter more.
    for place in range(len(text)):
        beginning = text[:place + 1]
        if not form.fullmatch(beginning) and not form.fullmatch(beginning + "a"):
            return place
    return len(text)
