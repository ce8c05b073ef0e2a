"""Books: adding a name to one."""

from keeper.errors import NotClosed, NoWord, TwiceTold
from keeper.judging import hold_to, let_by
from keeper.putting import free_in
from keeper.things import is_name


def added(book, name, kind, term, fuel):
    if not is_name(name):
        raise NoWord("what is to be added is no name")
    if name in book:
        raise TwiceTold("the book has this name")
    if len(free_in(kind)) > 0 or len(free_in(term)) > 0:
        raise NotClosed("a free variable in what is to be added")
    let_by([], kind, fuel, book)
    hold_to([], term, kind, fuel, book)
    new = dict(book)
    new[name] = (kind, term)
    return new
