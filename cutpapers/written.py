"""The texts of runs and of sentences."""

from cutpapers.errors import BadRun, BadSentence, BadText
from cutpapers.forms import is_run, is_sentence
from cutpapers.limits import MOST_NESTING
from cutpapers.texts import integer_of


def write_run(run):
    """Returns the text of the run."""
    if not is_run(run):
        raise BadRun()
    return "\n".join(["; ".join([_event_text(event) for event in row]) for row in run])


def read_run(text):
    """Returns the run that has the text."""
    if type(text) is not str:
        raise BadText()
    run = tuple([_row_of(line) for line in text.split("\n")])
    if not is_run(run):
        raise BadText()
    return run


def write_sentence(count, sentence):
    """Returns the text of the sentence for so many processes."""
    if not is_sentence(count, sentence):
        raise BadSentence()
    return _sentence_text(sentence)


def read_sentence(count, text):
    """Returns the sentence for so many processes that has the text."""
    if type(text) is not str:
        raise BadText()
    sentence = _sentence_of(text, MOST_NESTING)
    if not is_sentence(count, sentence):
        raise BadText()
    return sentence


def _event_text(event):
    words = [event[0]]
    if event[0] != "step":
        words.append(str(event[1]))
    words.extend([f"{variable}={value}" for variable, value in event[-1]])
    return " ".join(words)


def _sentence_text(sentence):
    kind = sentence[0]
    if kind == "not":
        return f"not ({_sentence_text(sentence[1])})"
    if kind in ("and", "or"):
        return f"({_sentence_text(sentence[1])}) {kind} ({_sentence_text(sentence[2])})"
    return f"{_left_text(sentence)} >= {sentence[-1]}"


def _left_text(sentence):
    if sentence[0] == "way":
        return "way"
    if sentence[0] == "at":
        return f"{sentence[1]}.{sentence[2]}"
    return " + ".join([f"{weight}*{process}.{variable}" for weight, process, variable in sentence[1]])


# The functions below split a text just where it was joined when it was
# written, and put None where a piece writes no integer. So what they return
# has this text if it is a run or a sentence, and the caller asks whether it is.


def _row_of(line):
    if line == "":
        return ()
    return tuple([_event_of(piece) for piece in line.split("; ")])


def _event_of(piece):
    words = piece.split(" ")
    if words[0] == "step":
        return ("step", _changes_of(words[1:]))
    if len(words) == 1:
        return None
    return (words[0], integer_of(words[1]), _changes_of(words[2:]))


def _changes_of(words):
    return tuple([_change_of(word) for word in words])


def _change_of(word):
    variable, _, value = word.partition("=")
    return (variable, integer_of(value))


def _sentence_of(text, depth):
    # The depth bounds the recursion for a text with many parentheses.
    if depth == 0:
        return None
    if text.startswith("not (") and text.endswith(")"):
        return ("not", _sentence_of(text[5:-1], depth - 1))
    if text.startswith("("):
        return _pair_of(text, depth)
    return _plain_of(text)


def _pair_of(text, depth):
    close = _closing(text)
    first = text[1:close]
    rest = text[close + 1:]
    for kind in ("and", "or"):
        joint = f" {kind} ("
        if rest.startswith(joint) and rest.endswith(")"):
            second = rest[len(joint):-1]
            return (kind, _sentence_of(first, depth - 1), _sentence_of(second, depth - 1))
    return None


def _closing(text):
    """Returns the place of the parenthesis that closes the first one, or the length."""
    depth = 0
    for place, sign in enumerate(text):
        if sign == "(":
            depth += 1
        elif sign == ")":
            depth -= 1
        if depth == 0:
            return place
    return len(text)


def _plain_of(text):
    left, _, right = text.partition(" >= ")
    bound = integer_of(right)
    if left == "way":
        return ("way", bound)
    if "*" in left:
        return ("sum", tuple([_term_of(piece) for piece in left.split(" + ")]), bound)
    process, variable = _place_of(left)
    return ("at", process, variable, bound)


def _term_of(piece):
    weight, _, place = piece.partition("*")
    process, variable = _place_of(place)
    return (integer_of(weight), process, variable)


def _place_of(piece):
    process, _, variable = piece.partition(".")
    return integer_of(process), variable
