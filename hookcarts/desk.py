"""A desk: a yard that is led by lines of text."""

from hookcarts.errors import NoCommand, NoPlace
from hookcarts.notation import deed_text, heap_text, train_text
from hookcarts.readers import deed_in, number_in
from hookcarts.yard import Yard


class Desk:
    """A yard, and the lines that it is told."""

    def __init__(self, heap):
        self._yard = Yard(heap)

    def execute(self, line):
        """Do what a line tells, and return the answer; raise NoCommand() or the errors of the yard."""
        deed = deed_in(line)
        if deed is not None:
            self._yard.do(deed)
            return "done"
        if line == "back":
            self._yard.back()
            return "done"
        if line == "again":
            self._yard.again()
            return "done"
        return self._answer(line)

    def _answer(self, line):
        """Return what is asked for; raise NoCommand(), or NoPlace(index)."""
        if line == "free":
            return heap_text(self._yard.free()) or "none"
        if line == "standing":
            return heap_text(self._yard.standing()) or "none"
        if line == "pieces":
            return str(self._yard.pieces())
        if line == "fewest":
            return str(self._yard.fewest())
        if line == "trains":
            return str(len(self._yard.trains()))
        if line == "advice":
            return ", then ".join([deed_text(deed) for deed in self._yard.advice()]) or "none"
        return self._train(line)

    def _train(self, line):
        """Return the text of the train that is asked for; raise NoCommand(), or NoPlace(index)."""
        word, _, told = line.partition(" ")
        index = number_in(told)
        if word != "train" or index is None:
            raise NoCommand()
        trains = self._yard.trains()
        if index >= len(trains):
            raise NoPlace(index)
        return train_text(trains[index])
