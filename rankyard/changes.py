"""Yards that are made of other ones: turned about, cut down, named anew, put side by side or on top of one another."""


# However the pairs have come together, a yard's pairs rise.
def yard_of(count, pairs):
    return (count, tuple(sorted(pairs)))


def turned(yard):
    return yard_of(yard[0], [(over, under) for under, over in yard[1]])


def part_of(yard, things):
    numbers = dict([(thing, number) for number, thing in enumerate(things)])
    held = [pair for pair in yard[1] if pair[0] in numbers and pair[1] in numbers]
    return yard_of(len(things), [(numbers[under], numbers[over]) for under, over in held])


def renamed(yard, places):
    return yard_of(yard[0], [(places[under], places[over]) for under, over in yard[1]])


# The pairs of both yards, those of other numbered on behind the things of one.
def pairs_of_both(one, other):
    count = one[0]
    return list(one[1]) + [(count + under, count + over) for under, over in other[1]]


def beside(one, other):
    return yard_of(one[0] + other[0], pairs_of_both(one, other))


def above(one, other):
    count = one[0] + other[0]
    pairs = pairs_of_both(one, other)
    for under in range(one[0]):
        pairs.extend([(under, over) for over in range(one[0], count)])
    return yard_of(count, pairs)
