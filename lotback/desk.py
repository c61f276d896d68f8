"""A desk, which is spoken to by strings."""
from lotback.deskanswers import answer_of
from lotback.deskread import read_command
from lotback.errors import InvalidRow
from lotback.houses import House


class Desk:
    """A House, at first none, and what strings tell it to do."""

    def __init__(self):
        self._house = None
        self._started = 0
        self._finished = 0

    def say(self, row):
        """The answer to any string."""
        self._started += 1
        finished = self._finished + 1
        try:
            return self._answer(row)
        finally:
            self._finished = finished

    def _answer(self, row):
        """The answer, not counted."""
        command = read_command(row)
        if command is None or (self._house is None and command[0] != "house"):
            raise InvalidRow(row)
        if command[0] == "house":
            self._house = House(command[1], careful=command[2])
            return "ok"
        return answer_of(self._house, command)

    def counts(self):
        """How many strings were started, and how many finished."""
        return self._started, self._finished
