"""Sums of words, reckoned by what two leaves."""

from bendfronts.drawings import is_whole


def is_word(thing):
    """Whether any thing is a word."""
    return isinstance(thing, tuple) and all([is_whole(name) and name >= 0 for name in thing])


def is_sum(thing):
    """Whether any thing is a sum."""
    if not isinstance(thing, list) or not all([is_word(part) for part in thing]):
        return False
    return all([word < onward for word, onward in zip(thing, thing[1:])])


def put(odd, words):
    """Puts words to those that came an odd number of times so far, the keys of a dict."""
    for word in words:
        if word in odd:
            del odd[word]
        else:
            odd[word] = True


def added(one, other):
    """The words that stand in just one of two sums."""
    odd = {}
    put(odd, one)
    put(odd, other)
    return sorted(odd)


def multiplied(one, other):
    """Each word of the one sum with each word of the other one behind it."""
    odd = {}
    for word in one:
        put(odd, [word + behind for behind in other])
    return sorted(odd)
