"""Showing by another way: a name is looked for anew at each binder, and figures are made in the text."""

import itertools
import re
import string

from tests.naming import named
from tests.samples import BINDS, WORDS


def all_names():
    for length in itertools.count(1):
        for signs in itertools.product(string.ascii_lowercase, repeat=length):
            yield "".join(signs)


def first_name(taken):
    return next(name for name in all_names() if name not in taken)


def written(tree, bound, names, taken):
    """`bound` has the names of the binders over it, `taken` all names that a binder here may not have."""
    word = tree[0]
    if word == "bound":
        return bound[tree[1]]
    if word == "free":
        return names[tree[1]]
    if word == "name":
        return tree[1]
    parts = [word]
    name = first_name(taken) if word in BINDS else None
    if name is not None:
        parts.append(name)
    for place, kid in enumerate(tree[2:]):
        if BINDS.get(word) == place:
            parts.append(written(kid, {**bound, tree[1]: name}, names, taken + [name]))
        else:
            parts.append(written(kid, bound, names, taken))
    return "(" + " ".join(parts) + ")" if len(parts) > 1 else word


def with_figures(text):
    text = re.sub(r"(?<![a-z])zero(?![a-z])", "0", text)
    while re.search(r"\(next \d+\)", text):
        text = re.sub(r"\(next (\d+)\)", lambda found: str(int(found[1]) + 1), text)
    return text


def names_in(thing):
    if thing[0] == "name":
        return [thing[1]]
    return [name for part in thing if isinstance(part, tuple) for name in names_in(part)]


def shown_by_names(thing, names):
    tree = named(thing, [], lambda number: ("free", number))
    return with_figures(written(tree, {}, names, list(names) + names_in(thing) + list(WORDS)))
