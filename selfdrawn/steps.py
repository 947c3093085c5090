"""Steps: the right sides of the lines of programs, the names in them, and what they make of pictures."""

from selfdrawn.checks import is_fraction, is_name, is_whole_in
from selfdrawn.making import joined_pictures, met_pictures, turned_picture
from selfdrawn.moves import is_move, moved_picture
from selfdrawn.scaling import MOST_MANY, lesser_picture, zoomed_picture

MOST_DIGITS = 9
# For each word how many names stand behind it, and how many numbers behind these.
SHAPES = {"joined": (2, 0), "met": (2, 0), "turned": (1, 1), "moved": (1, 2), "lesser": (1, 3), "zoomed": (1, 3)}


def told_whole(word):
    """The integer that a word tells as Python writes it, with at most nine digits; None if it tells none."""
    digits = word[1:] if word.startswith("-") else word
    if not 1 <= len(digits) <= MOST_DIGITS or not all(["0" <= digit <= "9" for digit in digits]):
        return None
    number = int(word)
    return number if str(number) == word else None


def told_fraction(word):
    """The fraction that a word tells, whole ones without a low; None if it tells none."""
    top, slash, low = word.partition("/")
    pair = (told_whole(top), told_whole(low) if slash else 1)
    # A low of 1 is not written.
    return pair if is_fraction(pair) and bool(slash) == (pair[1] != 1) else None


def told_numbers(word, words):
    """The numbers that words tell behind the names of a step with this word; None if these do not fit."""
    if word == "moved":
        numbers = tuple([told_fraction(one) for one in words])
        return numbers if is_move(numbers, 2) else None
    numbers = tuple([told_whole(one) for one in words])
    if word == "turned":
        return numbers if is_whole_in(numbers[0], 0, 7) else None
    if numbers and not is_whole_in(numbers[0], 1, MOST_MANY):
        return None
    return numbers if all([is_whole_in(place, 0, numbers[0] - 1) for place in numbers[1:]]) else None


def told_step(text):
    """What the right side of a line tells, (word, names .., numbers ..); None if it is none."""
    words = text.split(" ")
    if words[0] not in SHAPES:
        return None
    many, more = SHAPES[words[0]]
    names = tuple(words[1:1 + many])
    if len(words) != 1 + many + more or not all([is_name(name) for name in names]):
        return None
    numbers = told_numbers(words[0], words[1 + many:])
    return None if numbers is None else (words[0],) + names + numbers


def names_in_step(step):
    """The names in a step, (word, names .., numbers ..)."""
    many, _ = SHAPES[step[0]]
    return step[1:1 + many]


def made_by(step, pictures):
    """What a step, (word, names .., numbers ..), makes of pictures, which are told by their names."""
    word, picture = step[0], pictures[step[1]]
    if word == "joined":
        return joined_pictures(picture, pictures[step[2]])
    if word == "met":
        return met_pictures(picture, pictures[step[2]])
    if word == "turned":
        return turned_picture(picture, step[2])
    if word == "moved":
        return moved_picture(picture, step[2:])
    if word == "lesser":
        return lesser_picture(picture, step[2], step[3:])
    return zoomed_picture(picture, step[2], step[3:])
