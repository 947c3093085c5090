"""Inks: several pictures one above the other, the first one uppermost, and which of them is seen."""

from selfdrawn.beside import is_within
from selfdrawn.checks import is_whole_in
from selfdrawn.errors import BadNumber, BadPictures
from selfdrawn.making import are_alike_pictures, check_alike, joined_pictures, met_pictures
from selfdrawn.pictures import content_at, like_picture
from selfdrawn.points import has_point

MOST_INKS = 8


def check_pictures(pictures):
    """Refuse what is no tuple of one to eight pictures that are alike in kind."""
    if not are_alike_pictures(pictures) or len(pictures) > MOST_INKS:
        raise BadPictures(pictures)


def ink_at(pictures, point):
    """The number of the ink that is seen at this point; None if no picture has it."""
    check_pictures(pictures)
    there = [has_point(picture, point) for picture in pictures]
    return there.index(True) if True in there else None


def joined_so_far(pictures):
    """For each number the picture of all points that a picture above it has and, last, that any of them has."""
    joined = [like_picture(pictures[0], ())]
    for picture in pictures:
        joined.append(joined_pictures(joined[-1], picture))
    return joined


def unseen_inks(pictures):
    """The ascending tuple of the numbers of the inks that are seen at no point."""
    check_pictures(pictures)
    joined = joined_so_far(pictures)
    # What a picture adds to those above it is what is seen of it.
    return tuple([number for number in range(len(pictures)) if joined[number] == joined[number + 1]])


def inks_in(pictures, depth, cell):
    """The ascending tuple of the numbers of the inks that are seen at some point of this closed cell."""
    check_pictures(pictures)
    unseen = unseen_inks(tuple([content_at(picture, depth, cell) for picture in pictures]))
    return tuple([number for number in range(len(pictures)) if number not in unseen])


def parts_told(one, other):
    """The depth and the cell by which two pictures are seen not to be the same."""
    told = is_within(one, other)
    return told[1:] if told[0] == "parts" else is_within(other, one)[1:]


def same_inks(one, other):
    """Whether at each point the same ink is seen in both; if not, where it is seen that they differ."""
    check_pictures(one)
    check_pictures(other)
    check_alike(one[0], other[0])
    mine, others = joined_so_far(one), joined_so_far(other)
    for number in range(max(len(one), len(other))):
        shown = mine[min(number, len(one) - 1) + 1]
        beside = others[min(number, len(other) - 1) + 1]
        if shown != beside:
            return ("parts", number) + parts_told(shown, beside)
    return ("same",)


def exchange_seen(pictures, number):
    """Whether exchanging two neighbours changes at some point which of the pictures is seen; if so, where."""
    check_pictures(pictures)
    if not is_whole_in(number, 0, len(pictures) - 2):
        raise BadNumber(number)
    both = met_pictures(pictures[number], pictures[number + 1])
    above = joined_so_far(pictures[:number + 1])[number]
    told = is_within(both, above)
    return ("same",) if told[0] == "within" else ("seen",) + told[1:]
