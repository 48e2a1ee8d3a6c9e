"""Sums of words, reckoned by what two leaves."""

from bendfronts.drawings import is_whole


def is_word(thing):
    """Whether any thing is a word."""
    return isinstance(thing, tuple) and all([is_whole(name) and name >= 0 for name in thing])


def is_sum(thing):
    """Whether any thing is a sum."""
    if not isinstance(thing, list) or not all([is_word(part) for part in thing]):
        return False
    return all([word < onward for word, onward in zip(thing, thing[1:])])


def odd_words(words):
    """The sum of the words that come an odd number of times."""
    odd = {}
    for word in words:
        if word in odd:
            del odd[word]
        else:
            odd[word] = True
    return sorted(odd)


def added(one, other):
    """The words that stand in just one of two sums."""
    return odd_words(one + other)


def multiplied(one, other):
    """Each word of the one sum with each word of the other one behind it."""
    return odd_words([word + behind for word in one for behind in other])
