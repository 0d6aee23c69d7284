"""Names of patterns, and the words that are none."""

LETTERS = "abcdefghijklmnopqrstuvwxyz"
MOST_LETTERS = 20
WORDS = ("rows", "twill", "satin", "beside", "above", "mirror", "upend", "back", "quarter", "tile", "blocks", "lay")


def is_name(text):
    """Tell whether a text is a name."""
    if len(text) < 1 or len(text) > MOST_LETTERS:
        return False
    return text not in WORDS and all([sign in LETTERS for sign in text])
