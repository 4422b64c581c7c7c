"""A desk, at which a wharf is spoken to line by line."""

from dyedpours.errors import BadLine
from dyedpours.journals import deed_in, do_deed, read_journal, spot_in, words_in


def spot_asked(words):
    """The spot of which these words ask for the most or the least; None if they have not this form."""
    return spot_in(words[1:]) if words[:1] in (["most"], ["least"]) else None


class Desk:
    """A wharf, and what is said of it."""

    def __init__(self, text):
        self.wharf = read_journal(text)

    def say(self, line):
        """Do, or tell, what this line says; the answer is a string."""
        if not isinstance(line, str) or "\n" in line:
            raise BadLine(line)
        deed = deed_in(line)
        if deed is None:
            return self.reply(line)
        number = do_deed(self.wharf, deed)
        return "ok" if number is None else str(number)

    def reply(self, line):
        """The answer to a line that tells no deed."""
        words, wharf = words_in(line), self.wharf
        if words == ["undo"]:
            wharf.undo()
            return "ok"
        if words == ["redo"]:
            wharf.redo()
            return "ok"
        if words == ["done"]:
            return str(wharf.done)
        if len(words) == 2 and words[0] == "now":
            low, high = wharf.now(words[1])
            return " ".join([str(low), str(high)])
        spot = spot_asked(words)
        if spot is None:
            raise BadLine(line)
        return str(wharf.most(spot) if words[0] == "most" else wharf.least(spot))
