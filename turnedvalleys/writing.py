"""Writing the words of texts."""


def text_of(words):
    """The text of words."""
    return " ".join(words)


def number_words(numbers):
    """The words of numbers."""
    return [str(x) for x in numbers]


def rule_word(rule):
    """The word of a rule."""
    if rule is None:
        return "all"
    return ",".join(number_words(rule)) if len(rule) > 0 else "none"
