"""Texts of things, and reading by another way: first to lists within lists, then to things."""

import re

from keeper.errors import Great, NoText
from tests.looking_by_table import is_great
from tests.samples import BINDS, WORDS

# With a k where a kind is due, a t where a term is.
FORMS = {
    "all": "kk", "some": "kk", "same": "ktt", "fun": "kt", "app": "tt", "next": "t", "rec": "kttt", "like": "kt",
    "carry": "ktt", "never": "kt", "pair": "ktt", "first": "t", "second": "t",
}
KIND_FORMS = ("all", "some", "same")


def letters(number):
    """Another name for each number, none of which is a word of a thing."""
    return "q" + "".join("abcdefghij"[int(figure)] for figure in str(number))


def written(thing, names, binders=0):
    """A text of the thing; `names` are those of the variables round it, the nearest one first."""
    word = thing[0]
    if word == "var":
        return names[thing[1]]
    if word == "name":
        return thing[1]
    if len(thing) == 1:
        return word
    name = letters(binders)
    parts = [word, name] if word in BINDS else [word]
    for place, kid in enumerate(thing[1:]):
        around = [name] + names if BINDS.get(word) == place else names
        parts.append(written(kid, around, binders + 1))
    return "(" + " ".join(parts) + ")"


def is_name(word):
    return re.fullmatch(r"[a-z]{1,12}", word) is not None and word not in WORDS


def tree_of(text):
    """Lists within lists for brackets, of just one thing."""
    tokens = re.findall(r"[()]|[^ \n()]+", text)
    for before, after in (("(", "["), (")", "],")):
        tokens = [after if token == before else token for token in tokens]
    quoted = [token if token in ("[", "],") else repr(token) + "," for token in tokens]
    try:
        trees = eval("[" + "".join(quoted) + "]", {})
    except SyntaxError:
        raise NoText("brackets")
    if not isinstance(trees, list) or len(trees) != 1:
        raise NoText("not just one")
    return trees[0]


def need(truth):
    if not truth:
        raise NoText("not so")


def leaf(word, around, due):
    if word in ("nat", "none"):
        need(due == "k")
        return (word,)
    need(due == "t")
    if word == "zero":
        return (word,)
    if re.fullmatch(r"[0-9]|[123][0-9]", word):
        return ("next", leaf(str(int(word) - 1), around, due)) if word != "0" else ("zero",)
    need(is_name(word))
    return ("var", around.index(word)) if word in around else ("name", word)


def thing_of(tree, around, due):
    if isinstance(tree, str):
        return leaf(tree, around, due)
    need(tree and isinstance(tree[0], str) and tree[0] in FORMS)
    word, kids = tree[0], tree[1:]
    need((word in KIND_FORMS) == (due == "k"))
    name = None
    if word in BINDS:
        need(kids and isinstance(kids[0], str) and is_name(kids[0]))
        name, kids = kids[0], kids[1:]
    need(len(kids) == len(FORMS[word]))
    parts = [word]
    for place, (kid, kid_due) in enumerate(zip(kids, FORMS[word])):
        parts.append(thing_of(kid, [name] + around if BINDS.get(word) == place else around, kid_due))
    return tuple(parts)


def read_by_trees(text, names, due):
    """For texts without many brackets within one another; the due is k or t."""
    thing = thing_of(tree_of(text), list(names), due)
    if is_great(thing):
        raise Great("too great")
    return thing
