"""A house in words."""

from turnedvalleys.errors import BadText, BadWords
from turnedvalleys.houseasks import can, left, way, why
from turnedvalleys.othertexts import paper_text
from turnedvalleys.reading import read_end, read_number, read_stone, read_stones, word_at, words_of
from turnedvalleys.rowtext import row_text
from turnedvalleys.writing import number_words


def comma_run(run):
    """The word of a run."""
    return ",".join(number_words(run)) if len(run) > 0 else "."


def run_in(word):
    """The run of a word, whose own words stand between commas."""
    if word == ".":
        return ()
    parts = word.split(",")
    return read_stones(parts, 0, 1, len(parts))


def do_turn(house, words):
    """Turn a free head."""
    x = read_stone(words, 1)
    read_end(words, 2)
    house.turn(x)


def do_lay(house, words):
    """Do a run."""
    run = run_in(word_at(words, 1))
    read_end(words, 2)
    house.lay(run)


def do_put(house, words):
    """Put a new stone in."""
    x = read_stone(words, 1)
    place = read_number(words, 2)
    read_end(words, 3)
    house.put(x, place)


def do_take(house, words):
    """Take a stone out."""
    x = read_stone(words, 1)
    read_end(words, 2)
    house.take(x)


def do_aim(house, words):
    """Give a goal."""
    house.aim(read_stones(words, 1, 1, len(words)))


def do_undo(house, words):
    """Take back the last deed."""
    read_end(words, 1)
    house.undo()


def do_redo(house, words):
    """Do again the deed that was undone last."""
    read_end(words, 1)
    house.redo()


def tell_row(house):
    """The text of the row."""
    return row_text(house.row())


def tell_goal(house):
    """The text of the goal."""
    goal = house.goal()
    return "none" if goal is None else row_text(goal)


def tell_can(house):
    """Whether the goal comes."""
    return "yes" if can(house) else "no"


def tell_left(house):
    """How many turns are left."""
    return str(left(house))


def tell_way(house):
    """The run to the goal."""
    return comma_run(way(house))


def tell_why(house):
    """The paper that the goal does not come."""
    found = why(house)
    return "none" if found is None else paper_text(found)


DEEDS = {
    "turn": do_turn, "lay": do_lay, "put": do_put, "take": do_take, "aim": do_aim, "undo": do_undo, "redo": do_redo,
}
QUESTIONS = {
    "row": tell_row, "goal": tell_goal, "can": tell_can, "left": tell_left, "way": tell_way, "why": tell_why,
}


def answered(house, words):
    """The answer to words; BadText is raised if they are none that are understood."""
    if words[0] in DEEDS:
        deed = DEEDS[words[0]]
        deed(house, words)
        return "ok"
    if words[0] not in QUESTIONS:
        raise BadText(0)
    read_end(words, 1)
    question = QUESTIONS[words[0]]
    return question(house)


def told(house, words):
    """Do the deed or answer the question of a text."""
    try:
        return answered(house, words_of(words))
    except BadText:
        raise BadWords(words) from None
