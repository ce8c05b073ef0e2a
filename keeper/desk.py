"""The desk: an answer for each row of a text."""

from keeper.basics import basics
from keeper.books import added
from keeper.equality import alike
from keeper.errors import KeeperError, NoText
from keeper.judging import hold_to, kind_of, let_by
from keeper.normal import normal
from keeper.reading import read_thing
from keeper.showing import shown
from keeper.words import words_of


# Each of these gives the answer, and the book from then on.
def define(things, fuel, book):
    return ("defined", added(book, things[0], things[1], things[2], fuel))


def tell_kind(things, fuel, book):
    return (shown(kind_of([], things[0], fuel, book), []), book)


def check(things, fuel, book):
    let_by([], things[1], fuel, book)
    hold_to([], things[0], things[1], fuel, book)
    return ("good", book)


def tell_reduced(things, fuel, book):
    return (shown(normal(things[0], fuel, book)[0], []), book)


def tell_steps(things, fuel, book):
    return (str(len(normal(things[0], fuel, book)[1])), book)


def tell_equal(things, fuel, book):
    return ("equal" if alike(things[0], things[1], fuel, book) else "unlike", book)


# By the first word of a row: what is due behind it, and what answers it.
ROWS = {
    "define": (("name", "kind", "term"), define),
    "kind": (("term",), tell_kind),
    "check": (("term", "kind"), check),
    "reduce": (("term",), tell_reduced),
    "steps": (("term",), tell_steps),
    "equal": (("term", "term"), tell_equal),
}


# Each part is one word, or all words from a bracket to the one that closes it.
def parts_of(words):
    parts = []
    unclosed = 0
    for word in words:
        if unclosed == 0:
            parts.append([])
        parts[-1].append(word)
        if word == "(":
            unclosed += 1
        elif word == ")":
            unclosed -= 1
        if unclosed < 0:
            raise NoText("a bracket too many")
    if unclosed > 0:
        raise NoText("a bracket is lacking")
    return parts


def read_part(part, due):
    if due != "name":
        return read_thing(" ".join(part), [], due)
    # Which words are names is asked when the name is added.
    if len(part) != 1:
        raise NoText("a thing where one word is due")
    return part[0]


def things_of(parts, dues):
    if len(parts) != len(dues):
        raise NoText("things that lack or are too many")
    return [read_part(part, due) for part, due in zip(parts, dues)]


def answer_to(words, fuel, book):
    if words[0] not in ROWS:
        raise NoText("a word that begins no row")
    dues = ROWS[words[0]][0]
    answer = ROWS[words[0]][1]
    return answer(things_of(parts_of(words[1:]), dues), fuel, book)


def answer_or_refusal(words, fuel, book):
    try:
        return answer_to(words, fuel, book)
    except KeeperError as refusal:
        name = refusal.small_name()
        return (f"refused: {name}", book)


def answers(text, fuel):
    told = []
    book = basics()
    for row in text.split("\n"):
        words = words_of(row)
        if len(words) > 0:
            came = answer_or_refusal(words, fuel, book)
            told.append(came[0])
            book = came[1]
    return told
