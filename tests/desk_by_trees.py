"""The desk by another way: rows as lists within lists, read and shown by the tests' own reader and shower."""

from keeper.basics import basics
from keeper.equality import compared
from keeper.errors import Great, KeeperError, NoWord, TwiceTold, Unlike
from keeper.judging import kind_of, let_by
from keeper.normal import normal
from tests.looking_by_table import is_great
from tests.showing_by_names import shown_by_names
from tests.writing import is_name, need, thing_of, tree_of

DUES = {"define": "nkt", "kind": "t", "check": "tk", "reduce": "t", "steps": "t", "equal": "tt"}


def thing_read(tree, due):
    if due == "n":
        return tree
    thing = thing_of(tree, [], due)
    if is_great(thing):
        raise Great("too great")
    return thing


def need_kind(term, kind, fuel, book):
    let_by([], kind, fuel, book)
    if compared(kind_of([], term, fuel, book), kind, fuel, book)[4] is not None:
        raise Unlike("another kind")


def define(book, fuel, name, kind, term):
    if not is_name(name):
        raise NoWord("no name")
    if name in book:
        raise TwiceTold("twice")
    need_kind(term, kind, fuel, book)
    book[name] = (kind, term)
    return "defined"


def answer(word, things, fuel, book):
    if word == "define":
        return define(book, fuel, *things)
    if word == "kind":
        return shown_by_names(kind_of([], things[0], fuel, book), [])
    if word == "check":
        need_kind(things[0], things[1], fuel, book)
        return "good"
    if word == "equal":
        return "unlike" if compared(things[0], things[1], fuel, book)[4] is not None else "equal"
    came = normal(things[0], fuel, book)
    return shown_by_names(came[0], []) if word == "reduce" else str(len(came[1]))


def row_answered(row, fuel, book):
    word, *trees = tree_of("( " + row + " )")
    need(isinstance(word, str) and word in DUES)
    need(len(trees) == len(DUES[word]))
    need(word != "define" or isinstance(trees[0], str))
    return answer(word, [thing_read(tree, due) for tree, due in zip(trees, DUES[word])], fuel, book)


def answers_by_trees(text, fuel):
    book = basics()
    told = []
    for row in text.split("\n"):
        if row.strip(" "):
            try:
                told.append(row_answered(row, fuel, book))
            except KeeperError as refusal:
                told.append("refused: " + type(refusal).__name__.lower())
    return told
