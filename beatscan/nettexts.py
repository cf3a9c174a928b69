"""Nets as texts: a line for the inputs, one for each gate, and one for the outputs."""

from beatscan.errors import BadText

FIGURES = "0123456789"
MOST_FIGURES = 6


def net_text(net):
    """The text of a net."""
    inputs, gates, outputs = net
    lines = [line_of(("inputs", inputs))]
    for signals, words in gates:
        lines.append(line_of(("gate", "".join([str(word) for word in words]), *signals)))
    lines.append(line_of(("outputs", *outputs)))
    return "\n".join(lines)


def line_of(words):
    """The line of words and numbers."""
    return " ".join([str(word) for word in words])


def net_by(text):
    """The net of a text."""
    if not isinstance(text, str):
        raise BadText(0, 0)
    lines = [WordsOfLine(line, number) for number, line in enumerate(text.split("\n"), start=1)]
    inputs = lines[0].read_inputs()
    gates = []
    for line in lines[1:]:
        if line.words[0] != "outputs":
            gates.append(line.read_gate())
        else:
            outputs = line.numbers_from(1)
            if line.number < len(lines):
                raise BadText(line.number + 1, 1)
            return (inputs, tuple(gates), outputs)
    raise BadText(len(lines) + 1, 1)


class WordsOfLine:
    """The words of a line, with one blank between each two, and the line's number."""

    def __init__(self, line, number):
        # A blank too many makes a word of no sign, which is wrong wherever it stands.
        self.words = line.split(" ")
        self.line = line
        self.number = number

    def wrong(self, at):
        """Raises the error of a line that is wrong at one of its words, or at its end if it lacks one."""
        column = 1 + sum(len(word) + 1 for word in self.words[:at])
        raise BadText(self.number, min(column, len(self.line) + 1))

    def read_inputs(self):
        """The number of the line of the inputs."""
        if self.words[0] != "inputs":
            self.wrong(0)
        number = self.number_at(1)
        if len(self.words) > 2:
            self.wrong(2)
        return number

    def read_gate(self):
        """The gate of the line of one."""
        if self.words[0] != "gate":
            self.wrong(0)
        words = self.gate_words()
        signals = self.numbers_from(2)
        if len(words) != 1 << len(signals):
            self.wrong(1)
        return (signals, words)

    def gate_words(self):
        """The words of a gate, each of them a sign, as many as go together with some number of signals."""
        if len(self.words) < 2:
            self.wrong(1)
        signs = self.words[1]
        many = len(signs)
        if many == 0 or many & (many - 1) != 0 or not all(sign in "01" for sign in signs):
            self.wrong(1)
        return tuple(int(sign) for sign in signs)

    def numbers_from(self, first):
        """The tuple of the numbers from a word on."""
        return tuple(self.number_at(at) for at in range(first, len(self.words)))

    def number_at(self, at):
        """The number that a word is."""
        if at >= len(self.words) or not is_figures(self.words[at]):
            self.wrong(at)
        return int(self.words[at])


def is_figures(word):
    """Whether a word is a number of at most so many figures, without a 0 ahead."""
    if not 1 <= len(word) <= MOST_FIGURES or (len(word) > 1 and word[0] == "0"):
        return False
    return all(sign in FIGURES for sign in word)
