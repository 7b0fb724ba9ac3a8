"""Shut tables, count papers and handout papers judged by a second reading, and changed here and there."""

from makerly import changed_parts, fault_of, part_of, places_in, with_part_at
from papers import all_sets, is_plainly_a_number, is_plainly_a_stand, part_of_book, stand_of
from plainly import heads_of_stand, kind_of_tree, stand_behind, tree_of, trees_in, wanted_places
from values import is_plainly_a_kind, is_plainly_a_name


def first_of(wish):
    return frozenset(tree_of(wish)[0]), tree_of(wish)[1]


def stands_fault(stands):
    for k, stand in enumerate(stands):
        if not is_plainly_a_stand(stand) or k and not stands[k - 1] < stand:
            return "stand", k
    return None


def is_shut(book, stands, stand):
    """Whether each head of the stand has a part that leads to one of the stands."""
    return all(any(stand_behind(stand, part) in stands for part in head[0]) for head in heads_of_stand(book, stand))


def open_fault(book, stands):
    known = set(map(stand_of, stands))
    for k, stand in enumerate(stands):
        if not is_shut(trees_in(book), known, stand_of(stand)):
            return "open", k
    return None


def shut_fault(book, wish, thing):
    """The word and where for which a shut table is not accepted, None if it is."""
    if not isinstance(thing, tuple):
        return "shape", -1
    fault = stands_fault(thing)
    if fault is None and first_of(wish) not in map(stand_of, thing):
        fault = "first", -1
    return fault or open_fault(book, thing)


def is_plainly_a_count_row(thing):
    if not isinstance(thing, tuple) or len(thing) != 2 or not isinstance(thing[0], tuple) or len(thing[0]) != 2:
        return False
    (hand, atom), number = thing
    return (isinstance(hand, tuple) and all(map(is_plainly_a_kind, hand)) and list(hand) == sorted(hand)
            and is_plainly_a_name(atom) and is_plainly_a_number(number))


def number_of_row(book, known, earlier, hand, atom):
    """The number that is stated for a row, None if a row that it needs is not there."""
    hand, total = [tree_of(kind) for kind in hand], 0
    stand, missing = (frozenset(hand), atom), False
    for head in heads_of_stand(book, stand):
        if any(stand_behind(stand, part) in known for part in head[0]):
            continue
        ways = [tree for _, tree in book].count(head) + hand.count(head)
        for part in head[0]:
            needed = tuple(sorted(kind_of_tree(tree) for tree in [*hand, *part[0]])), part[1]
            missing = missing or needed not in earlier
            ways *= earlier.get(needed, 0)
        total += ways
    return None if missing else total


def endless_fault(book, wish, maker, place, deeper):
    fault = fault_of(book, wish, maker)
    if fault is not None:
        return fault
    wanted = wanted_places(book, wish, maker)
    is_place = lambda thing: (isinstance(thing, tuple) and all(map(is_plainly_a_number, thing)) and thing in wanted)
    if not is_place(place):
        return "place", -1
    if not is_place(deeper) or len(deeper) <= len(place) or deeper[:len(place)] != place:
        return "deeper", -1
    return None if wanted[place][0] == wanted[deeper][0] else ("atom", -1)


def just_fault(book, wish, number, rows, shut):
    fault = stands_fault(shut) or open_fault(book, shut)
    if fault is not None:
        return fault
    known, earlier = set(map(stand_of, shut)), {}
    for k, row in enumerate(rows):
        if not is_plainly_a_count_row(row):
            return "row", k
        (hand, atom), told = row
        if number_of_row(trees_in(book), known, earlier, hand, atom) != told:
            return "row", k
        earlier[row[0]] = told
    if number == 0 and first_of(wish) in known:
        return None
    last = (tuple(sorted(kind_of_tree(part) for part in tree_of(wish)[0])), tree_of(wish)[1]), number
    return None if rows and rows[-1] == last else ("first", -1)


def count_fault(book, wish, thing):
    """The word and where for which a count paper is not accepted, None if it is."""
    if not isinstance(thing, tuple) or len(thing) != 4 or not isinstance(thing[0], str):
        return "shape", -1
    if thing[0] == "endless":
        return endless_fault(book, wish, *thing[1:])
    if thing[0] != "just" or not is_plainly_a_number(thing[1]):
        return "shape", -1
    if not isinstance(thing[2], tuple) or not isinstance(thing[3], tuple):
        return "shape", -1
    return just_fault(book, wish, *thing[1:])


# Handouts.

def row_fault(book, let, barred, i, element):
    """The word for which an element of poor, rich or good is not accepted, None if it is."""
    names, second, third = element
    if not isinstance(names, tuple) or not all(map(is_plainly_a_name, names)) or names not in all_sets(book):
        return "set"
    own = part_of_book(book, names)
    if i == 2:
        for things, wishes, fault in ((second, let, fault_of), (third, barred, shut_fault)):
            if not isinstance(things, tuple) or len(things) != len(wishes):
                return "paper"
            if any(fault(own, wish, thing) is not None for wish, thing in zip(wishes, things)):
                return "paper"
        return None
    wishes = (let, barred)[i]
    if not is_plainly_a_number(second) or second >= len(wishes):
        return "wish"
    return "paper" if (shut_fault, fault_of)[i](own, wishes[second], third) is not None else None


def handout_fault(book, let, barred, thing):
    """The word and where for which a handout paper is not accepted, None if it is."""
    if not isinstance(thing, tuple) or len(thing) != 3:
        return "shape", -1
    if not all(isinstance(rows, tuple) for rows in thing):
        return "shape", -1
    if not all(isinstance(row, tuple) and len(row) == 3 for rows in thing for row in rows):
        return "shape", -1
    for i, rows in enumerate(thing):
        for k, element in enumerate(rows):
            word = row_fault(book, let, barred, i, element)
            if word is not None:
                return word, (i, k)
    poor, rich, good = [[set(row[0]) for row in rows] for rows in thing]
    for names in all_sets(book):
        own = set(names)
        told = any(own <= one for one in poor) or any(one <= own for one in rich)
        if not told and not (any(one <= own for one in good) and any(own <= one for one in good)):
            return "left", names
    return None


# Changes at drawn places.

def changed_stands(rng, stands, kinds, atoms):
    k = rng.randrange(len(stands)) if stands else 0
    ahead, behind = stands[:k], stands[k + 1:]
    given, atom = stands[k] if stands else ((), "p")
    other = tuple(sorted({*given, rng.choice(kinds)}))
    return rng.choice([
        lambda: (*ahead, *behind),
        lambda: (*ahead, *behind),
        lambda: tuple(sorted({*stands, (other, rng.choice(atoms))})),
        lambda: tuple(sorted({*stands, (other, atom)})),
        lambda: tuple(sorted({*stands, (other, "zz")})),
        lambda: tuple(sorted({*stands, ((), rng.choice(atoms)), ((), "zz")})),
        lambda: tuple(sorted({*ahead, *behind, (given, rng.choice(atoms))})),
        lambda: (*ahead, (given, atom), (given, atom), *behind),
        lambda: stands[::-1],
        lambda: (*ahead, ((*given, "p"), atom), *behind),
        lambda: (*ahead, rng.choice([None, given, (given,), [given, atom], (list(given), atom), (given, "P"), (given, atom, atom),
                                     ((*given, "(p)"), atom), (given, "p -> q"), (given, (atom,)), (atom, given), True]), *behind),
        lambda: list(stands),
        lambda: rng.choice([None, dict(zip(stands, stands)), "", 0, ()]),
    ])()


def changed_count_rows(rng, rows, kinds, atoms):
    k = rng.randrange(len(rows)) if rows else 0
    ahead, behind = rows[:k], rows[k + 1:]
    (hand, atom), number = rows[k] if rows else (((), "p"), 0)
    return rng.choice([
        lambda: (*ahead, ((hand, atom), number + 1), *behind),
        lambda: (*ahead, ((hand, atom), max(number - 1, 0)), *behind),
        lambda: (*ahead, *behind),
        lambda: (*ahead, ((hand, atom), number), ((hand, atom), number), *behind),
        lambda: (*behind, ((hand, atom), number), *ahead),
        lambda: rows[::-1],
        lambda: (((hand, "zz"), 0), *rows),
        lambda: (((hand, "zz"), 1), *rows),
        lambda: (((("zz",), "zz"), 1), *rows),
        lambda: (*ahead, ((tuple(sorted((*hand, rng.choice(kinds)))), atom), number), *behind),
        lambda: (*ahead, ((hand[::-1], atom), number), *behind),
        lambda: (*ahead, ((hand[1:], atom), number), *behind),
        lambda: (*ahead, ((hand, rng.choice(atoms)), number), *behind),
        lambda: (*ahead, rng.choice([None, (hand, atom), ((hand, atom),), [(hand, atom), number], ((hand, atom), True),
                                     ((hand, atom), -1), ((list(hand), atom), number), ((hand, "P"), number), ((hand,), number),
                                     ([hand, atom], number), (((*hand, "zz", "a"), atom), number), ((hand, atom), number, 0),
                                     (((*hand, "(zz)"), atom), number), ((hand, atom), str(number)), ((hand, (atom,)), number)]),
                 *behind),
        lambda: list(rows),
        lambda: (),
    ])()


def changed_maker(rng, maker, heads):
    place = rng.choice(places_in(maker))
    return with_part_at(maker, place, rng.choice(changed_parts(part_of(maker, place), heads)))


ODD_PLACES = [None, (-1,), (True,), [0], (0, 0, 0, 0, 0, 0, 0), "", 0, ("0",), (9,), ((),), (False,), (None,)]


def changed_repeat(rng, paper, heads):
    """A paper that shows that there is no end, changed."""
    word, maker, place, deeper = paper
    places = places_in(maker)
    return rng.choice([
        lambda: (word, changed_maker(rng, maker, heads), place, deeper),
        lambda: (word, maker, rng.choice(places), rng.choice(places)),
        lambda: (word, maker, rng.choice(places), rng.choice(places)),
        lambda: (word, maker, rng.choice(places), deeper),
        lambda: (word, maker, place, rng.choice(places)),
        lambda: (word, maker, rng.choice(ODD_PLACES), deeper),
        lambda: (word, maker, place, rng.choice(ODD_PLACES)),
        lambda: (word, maker, deeper, place),
        lambda: (word, maker, place, place),
    ])()


def changed_count(rng, paper, kinds, atoms, heads):
    """A count paper with a change at a drawn place."""
    word, first, second, third = paper
    if rng.random() < 0.1:
        return rng.choice([None, (word, first, second), [word, first, second, third], (word.upper(), first, second, third),
                           (first, second, third), (*paper, ()), ("just", first, second, third), ("endless", first, second, third),
                           (word, True, second, third), (word, None, second, third), (word, first, third, second),
                           (word, first, None, third), (word, first, second, None), ("just", 0, (), ()), ([word], first, second, third)])
    if word == "endless":
        return changed_repeat(rng, paper, heads)
    if not isinstance(second, tuple) or not isinstance(third, tuple):
        return paper
    return rng.choice([
        lambda: (word, first + 1, second, third), lambda: (word, max(first - 1, 0), second, third), lambda: (word, 0, second, third),
        *[lambda: (word, first, changed_count_rows(rng, second, kinds, atoms), third)] * 6,
        *[lambda: (word, first, second, changed_stands(rng, third, kinds, atoms))] * 4,
    ])()


def changed_element(rng, i, element, kinds, atoms, heads, names):
    first, second, third = element
    other = tuple(sorted(rng.sample(names, rng.randint(0, len(names)))))
    table = lambda thing: changed_stands(rng, thing, kinds, atoms)
    maker = lambda thing: changed_maker(rng, thing, heads)
    ways = [
        lambda: (other, second, third), lambda: (first[:-1], second, third), lambda: (first[1:], second, third),
        lambda: (rng.choice([first[::-1], list(first), None, (*first, "zz"), first + first[-1:], (*first, 0), "", (("a",),)]), second, third),
        lambda: rng.choice([None, list(element), element[:2], (*element, ()), ()]),
    ]
    if i < 2:
        ways += [lambda: (first, rng.choice([0, 1, 2, 3, -1, True, False, None, "0", (0,)]), third),
                 lambda: (first, second, table(third) if i == 0 else maker(third)), lambda: (first, third, second),
                 lambda: (first, second, rng.choice([None, (), ("a", ())]))]
    else:
        ways += [lambda: (first, second[:-1], third), lambda: (first, second, third[1:]), lambda: (first, list(second), third),
                 lambda: (first, second, list(third)), lambda: (first, second[::-1], third), lambda: (first, second, third[::-1]),
                 lambda: (first, third, second), lambda: (first, None, third), lambda: (first, second, None),
                 lambda: (first, second + second[:1], third)]
        if second:
            ways.append(lambda: (first, (maker(second[0]), *second[1:]), third))
        if third:
            ways.append(lambda: (first, second, (*third[:-1], table(third[-1]))))
    return rng.choice(ways)()


def changed_handout(rng, paper, kinds, atoms, heads, names):
    """A handout paper with a change at a drawn place."""
    if rng.random() < 0.08:
        return rng.choice([None, list(paper), paper[:2], (*paper, ()), paper[::-1], (list(paper[0]), *paper[1:]), ((), (), ()),
                           (None, *paper[1:]), (*paper[:2], None), (*paper[:2], ()), ((), *paper[1:])])
    full = [i for i in range(3) if paper[i]]
    if not full:
        return (), (((), 0, ()),), ()
    i = rng.choice(full)
    rows = paper[i]
    k = rng.randrange(len(rows))
    changed = rng.choice([
        lambda: rows[:k] + rows[k + 1:], lambda: rows[:k] + rows[k + 1:], lambda: rows + rows[k:k + 1], lambda: rows[::-1],
        *[lambda: (*rows[:k], changed_element(rng, i, rows[k], kinds, atoms, heads, names), *rows[k + 1:])] * 6,
    ])()
    return (*paper[:i], changed, *paper[i + 1:])
