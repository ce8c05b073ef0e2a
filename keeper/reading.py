"""Reading: from a text to a thing."""

from keeper.errors import NoText
from keeper.things import BINDER_OVER, KIDS_DUE, KIND_WORDS, bounded, is_name
from keeper.words import words_of

FIGURES = "0123456789"
MOST_FIGURE = 39


# A bracket that stands open, with what was read in it; `due` tells, for each part, whether a kind or a term is due.
class Form:
    def __init__(self, word, name, due):
        self.word = word
        self.name = name
        self.due = due
        self.parts = []

    def binds_here(self):
        return self.name is not None and BINDER_OVER[self.word] == len(self.parts)

    def is_full(self):
        return len(self.parts) == len(self.due)

    def take(self, thing):
        if self.is_full():
            raise NoText("a thing too many")
        if (thing[0] in KIND_WORDS) != (self.due[len(self.parts)] == "kind"):
            raise NoText("a kind where a term is due, or the other way round")
        self.parts.append(thing)

    def closed(self):
        if not self.is_full():
            raise NoText("a thing is lacking")
        return (self.word,) + tuple(self.parts)


# The head of a bracket is its word and, where it binds, a name.
def form_of(head):
    word = head[0] if len(head) > 0 else ""
    due = KIDS_DUE.get(word, ())
    if len(due) == 0:
        raise NoText("a bracket without a word that stands in one")
    if word not in BINDER_OVER:
        return Form(word, None, due)
    if len(head) < 2 or not is_name(head[1]):
        raise NoText("a binder without a name")
    return Form(word, head[1], due)


def thing_named(word, forms, names):
    binders = 0
    for form in reversed(forms):
        if form.binds_here():
            if form.name == word:
                return ("var", binders)
            binders += 1
    if word in names:
        return ("var", binders + names.index(word))
    return ("name", word)


def is_figure(word):
    # How long it is comes first: figures without end are nothing to make a number of.
    if len(word) > 2 or not all([sign in FIGURES for sign in word]):
        return False
    return str(int(word)) == word and int(word) <= MOST_FIGURE


def count_of(number):
    thing = ("zero",)
    for count in range(number):
        thing = ("next", thing)
    return thing


def leaf_of(word, forms, names):
    if word in ("nat", "none", "zero"):
        return (word,)
    if is_figure(word):
        return count_of(int(word))
    if is_name(word):
        return thing_named(word, forms, names)
    raise NoText("a word that is no thing")


# Without recursion: more brackets may stand open than calls may.
def read_thing(text, names, due):
    words = words_of(text)
    whole = Form("", None, (due,))
    forms = [whole]
    place = 0
    while place < len(words):
        word = words[place]
        place += 1
        if word == "(":
            form = form_of(words[place:place + 2])
            forms.append(form)
            place += 1 if form.name is None else 2
        elif word == ")":
            if len(forms) == 1:
                raise NoText("a bracket too many")
            closed = forms.pop().closed()
            forms[-1].take(closed)
        else:
            forms[-1].take(leaf_of(word, forms, names))
    if len(forms) > 1 or not whole.is_full():
        raise NoText("a bracket, or all of it, is lacking")
    # Ahead of this nothing is refused with Great: what is not the text of a thing is so whatever its size.
    return bounded(whole.parts[0])


def read_term(text, names):
    return read_thing(text, names, "term")


def read_kind(text, names):
    return read_thing(text, names, "kind")
