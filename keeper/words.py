"""The words of a text: brackets, and the runs between them."""


def words_of(text):
    spaced = text.replace("(", " ( ").replace(")", " ) ").replace("\n", " ")
    return [word for word in spaced.split(" ") if word != ""]
