"""What a name is."""

LETTERS = "abcdefghijklmnopqrstuvwxyz"
KEPT_WORDS = ("jars", "deed", "rest", "pay", "put", "then", "either", "take", "often", "use")


def is_name(text):
    """Whether a text is one to six small letters, and none of the words that are kept."""
    if len(text) < 1 or len(text) > 6:
        return False
    return text not in KEPT_WORDS and all([sign in LETTERS for sign in text])
