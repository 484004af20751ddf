"""Least tables where a letter leads from a place to several at once."""

import unittest

from patternways.errors import TooLarge
from patternways.machines import least_of
from patternways.nets import Net, table_of_net
from tests.brute import chances, is_least
from tests.case import Case


def made_up(chance, size, many):
    """A net of so many places."""
    net = Net(size)
    for place in range(many):
        for letter in range(size):
            for _ in range(chance.choice([0, 1, 1, 2])):
                net.link(place, letter, 1 << chance.randrange(many))
    net.ends = sum(1 << place for place in range(many) if chance.random() < 0.3)
    return net


def plainly(net, start):
    """The least table, by all sets of places that are come to."""
    found, rows = [start], []
    for places in found:
        row = []
        for moves in net.moves:
            later = 0
            for place, more in moves.items():
                later |= more if places >> place & 1 else 0
            if later not in found:
                found.append(later)
            row.append(found.index(later))
        rows.append(tuple(row))
    return least_of(rows, [places & net.ends != 0 for places in found])


def far(many):
    """A net of the texts that have an a so many letters ahead of their last one: the table has 2 ** (many + 1) stands."""
    net = Net(2)
    net.link(0, 0, 3)
    net.link(0, 1, 1)
    for place in range(1, many + 1):
        for letter in range(2):
            net.link(place, letter, 1 << place + 1)
    net.ends = 1 << many + 1
    return net


class Nets(Case):
    def test_plain(self):
        net = Net(1)
        self.assertEqual(table_of_net(net, 1), (((0,),), (False,)))
        net.link(0, 0, 2)
        net.link(1, 0, 1)
        net.ends = 1
        self.assertEqual(table_of_net(net, 1), (((1,), (0,)), (True, False)))
        self.assertEqual(table_of_net(net, 3), (((0,),), (True,)))
        self.assertEqual(table_of_net(net, 0), (((0,),), (False,)))

    def test_made_up(self):
        large = 0
        for chance in chances(400):
            size, many = chance.choice([1, 2, 3]), chance.choice([2, 4, 6, 9])
            net, start = made_up(chance, size, many), chance.randrange(1 << many)
            table = plainly(net, start)
            if len(table[0]) > 40:
                self.refuses(TooLarge, table_of_net, net, start)
                large += 1
            else:
                self.assertEqual(table_of_net(net, start), table)
                self.assertTrue(is_least(*table))
        self.assertGreater(large, 10)

    def test_far(self):
        for many in range(5):
            self.assertEqual(table_of_net(far(many), 1), plainly(far(many), 1))
            self.assertEqual(len(table_of_net(far(many), 1)[0]), 2 ** (many + 1))
        for many in (5, 9, 60):
            self.refuses(TooLarge, table_of_net, far(many), 1)

    def test_many_sets_and_few_stands(self):
        # of each text, one of both nets ends it: so all texts are words, by sets of places without number
        for many in (3, 10, 40):
            net = far(many)
            top = many + 2
            net.link(top, 0, 1 << top)
            net.link(top, 1, 1 << top)
            net.ends |= 1 << top
            self.assertEqual(table_of_net(net, 1 | 1 << top), (((0, 0),), (True,)))


if __name__ == "__main__":
    unittest.main()
