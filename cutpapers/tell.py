"""The answer to a question, with a paper that shows it."""

from cutpapers.free import every_free, some_free
from cutpapers.joint import every_joint, some_joint
from cutpapers.sentences import kind
from cutpapers.sums import some_sum


def tell(order, question, sentence, most):
    """Returns the answer to the question "some" or "every" about the sentence, and a paper for it."""
    if question == "some":
        paper = _some(order, sentence, most)
        return (paper[0] == "cut", paper)
    paper = _every(order, sentence, most)
    return (paper[0] != "path", paper)


def _some(order, sentence, most):
    word = kind(sentence)
    if word == "joint":
        return some_joint(order, sentence)
    if word == "sum":
        return some_sum(order, sentence)
    return some_free(order, sentence, most)


def _every(order, sentence, most):
    if kind(sentence) == "joint":
        return every_joint(order, sentence)
    return every_free(order, sentence, most)
