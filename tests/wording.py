"""Which rows of words are right, or begin right ones: found by writing out all of them."""

import itertools

LINEAR_WORDS = ("1/2", "sum", "[x]", "plus")


def linear_texts(most=3):
    """Give all linear texts with one word of each kind, up to a number of terms."""
    term = ("1/2", "sum", "[x]")
    yield ("zero",)
    for many in range(1, most + 1):
        words = term
        for _ in range(many - 1):
            words = (*words, "plus", *term)
        yield words


def measure_texts():
    yield from linear_texts()
    yield ("least", "[x]")
    yield ("variance", "[x]")
    for top, bottom in itertools.product(linear_texts(), repeat=2):
        yield ("quotient", *top, "over", *bottom)


def beginnings(texts):
    """Give all rows of words with which one of the texts begins."""
    return {text[:many] for text in texts for many in range(len(text) + 1)}


def wrong_place(words, texts, begun):
    """Give the place that is due for these words, or None if they are right."""
    if tuple(words) in texts:
        return None
    for place in range(len(words)):
        if tuple(words[:place + 1]) not in begun:
            return place
    return len(words)


MEASURES = set(measure_texts())
MEASURES_BEGUN = beginnings(MEASURES)
