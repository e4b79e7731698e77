"""The desk: keeps a kind, and answers lines of text."""

from yesnowords.answers import answer, read_kind
from yesnowords.errors import NoLine


class Desk:
    """Keeps a kind till a line changes it."""

    def __init__(self, many, most):
        self.kind = (many, most)

    def say(self, line):
        """The answer to the line; NoLine, with nothing changed, where it is none."""
        if not isinstance(line, str):
            raise NoLine("a line is a text")
        head, *given = line.split(" ")
        if head == "kind":
            self.kind = read_kind(given)
            return "ok"
        return answer(self.kind, head, given)
