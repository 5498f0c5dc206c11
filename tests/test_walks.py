import random
import unittest

from samples import HANDS, both_deeds, four_deeds, largest_deeds, random_deeds, talk_deeds
from slow import neighbours_of, only_order, slow_first_wrong, told_order, views_of
from unmixed.histories import first_wrong
from unmixed.walks import walked


def order_of(neighbours):
    """The order by the walk; things stand behind their neighbours in the dictionary."""
    return walked([(thing, *neighbours[thing]) for thing in neighbours])


def samples(seed, many, hands, size):
    chance = random.Random(seed)
    return [random_deeds(chance, HANDS[:hands], chance.randint(1, size)) for _ in range(many)]


def with_last(deeds, hand, deed):
    return {**deeds, hand: [*deeds.get(hand, []), deed]}


class Orders(unittest.TestCase):
    """[23] and [28]"""

    def test_nothing(self):
        self.assertEqual(walked([]), [])

    def test_runs_typed_forward_are_not_mixed(self):
        order = [("ann", 0), ("ann", 1), ("bob", 0), ("bob", 1)]
        self.assertEqual(order_of(neighbours_of(both_deeds())), order)

    def test_runs_typed_backward_are_not_mixed(self):
        deeds = {
            "ann": [("put", "c", None, None, {}), ("put", "b", None, ("ann", 0), {"ann": 1})],
            "bob": [("put", "z", None, None, {}), ("put", "y", None, ("bob", 0), {"bob": 1})],
        }
        self.assertEqual(order_of(neighbours_of(deeds)), [("ann", 1), ("ann", 0), ("bob", 1), ("bob", 0)])

    def test_the_documents_examples(self):
        talk = [("ann", 0), ("bob", 0), ("cy", 0), ("ann", 1), ("ann", 2)]
        self.assertEqual(order_of(neighbours_of(talk_deeds())), talk)
        lead = {("ann", 0): (None, None), ("ann", 1): (None, ("ann", 0)), ("bob", 0): (None, ("ann", 0))}
        self.assertEqual(order_of(lead), [("ann", 1), ("bob", 0), ("ann", 0)])
        four = [("ann", 0), ("cy", 1), ("bob", 0), ("cy", 0)]
        self.assertEqual(order_of(neighbours_of(four_deeds())), four)

    def test_the_later_right_neighbour_comes_first(self):
        # Behind ann/0 stand two with right neighbours that are no brothers: bob/0, the earlier, and cy/0, the later.
        behind = {
            ("ann", 0): (None, None), ("bob", 0): (None, None), ("cy", 0): (None, None),
            ("amy", 0): (("ann", 0), ("bob", 0)), ("eve", 0): (("ann", 0), ("cy", 0)), ("zoe", 0): (("ann", 0), None),
        }
        order = [("ann", 0), ("zoe", 0), ("eve", 0), ("amy", 0), ("bob", 0), ("cy", 0)]
        self.assertEqual(order_of(behind), order)
        self.assertEqual(only_order(behind), order)

    def test_it_is_the_only_list_that_keeps_the_four_rules(self):
        for deeds in samples(23, 150, 5, 6):
            neighbours = neighbours_of(deeds)
            self.assertEqual(order_of(neighbours), only_order(neighbours))

    def test_it_is_that_of_the_slow_words_of_larger_histories_too(self):
        for deeds in [largest_deeds(), *samples(28, 30, 5, 20)]:
            neighbours = neighbours_of(deeds)
            self.assertEqual(order_of(neighbours), told_order(neighbours))

    def test_more_deeds_never_turn_two_things_about(self):
        for deeds in samples(24, 60, 4, 8):
            neighbours = neighbours_of(deeds)
            order = order_of(neighbours)
            for view in views_of(deeds):
                within = {thing: neighbours[thing] for thing in neighbours if thing[1] < view.get(thing[0], 0)}
                self.assertEqual(order_of(within), [thing for thing in order if thing in within])


class Judged(unittest.TestCase):
    """[12] and [23]: what first_wrong says of neighbours tells the order of a past's things."""

    def test_just_the_neighbours_in_the_order_pass(self):
        for deeds in samples(12, 60, 4, 6):
            neighbours = neighbours_of(deeds)
            past = {hand: len(deeds[hand]) for hand in deeds}
            fenced = [None, *only_order(neighbours), None]
            for left in [None, *neighbours]:
                for right in [None, *neighbours]:
                    wrong = first_wrong(with_last(deeds, "zoe", ("put", "new", left, right, past)))
                    beside = (left, right) in zip(fenced, fenced[1:])
                    self.assertEqual(wrong, None if beside else ("beside", ("zoe", 0)))

    def test_histories_that_are_wrong_somewhere(self):
        chance = random.Random(14)
        found = set()
        for deeds in samples(13, 800, 5, 9):
            self.assertIsNone(first_wrong(deeds))
            changed = spoilt(chance, deeds)
            self.assertEqual(first_wrong(changed), slow_first_wrong(changed))
            found.add((first_wrong(changed) or ("none",))[0])
        self.assertEqual(found, {"none", "own", "there", "closed", "beside", "struck"})


def spoilt(chance, deeds):
    """The deeds with a few of them changed at will; they keep their form."""
    deeds = {hand: list(deeds[hand]) for hand in deeds}
    for _ in range(chance.choice([1, 1, 2, 3])):
        hand = chance.choice(sorted(deeds))
        at = chance.randrange(len(deeds[hand]))
        deeds[hand][at] = spoilt_deed(chance, deeds[hand][at])
    return deeds


def spoilt_deed(chance, deed):
    mark = chance.choice([(hand, number) for hand in HANDS for number in range(3)])
    *words, past = deed
    if chance.random() < 0.4:
        other = chance.choice(HANDS)
        counts = {**past, other: past.get(other, 0) + chance.choice([-1, 1, 1])}
        return (*words, {hand: counts[hand] for hand in counts if counts[hand] > 0})
    if deed[0] == "strike":
        return ("strike", mark, past)
    return chance.choice([
        ("put", deed[1], deed[3], deed[2], past), ("put", deed[1], mark, deed[3], past),
        ("put", deed[1], deed[2], mark, past), ("put", deed[1], None, deed[3], past),
        ("put", deed[1], deed[2], None, past), ("strike", mark, past),
    ])


if __name__ == "__main__":
    unittest.main()
