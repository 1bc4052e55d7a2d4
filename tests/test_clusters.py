"""Clusters, and the steps around a place."""

import unittest

from caseflow.nets.clusters import cluster_of, clusters, steps_into, steps_out_of
from tests import plain
from tests.randoms import random_nets
from tests.samples import B, C, F, L, NETS, ODD, P, WORKFLOWS, chain, choices, outcome, same, wide


def plain_clusters(net):
    sides = sorted(set(step[1] for step in net[1]))
    return tuple((side, tuple(sorted(step[0] for step in net[1] if step[1] == side))) for side in sides)


class Clusters(unittest.TestCase):

    def test_clusters(self):
        self.assertEqual(clusters(P), (((0,), ("card", "cash")), ((2,), ("ship",))))
        self.assertEqual(clusters(B), (((0,), ("left", "right")), ((2, 3), ("both",))))
        self.assertEqual(clusters(L), (((0,), ("fork",)), ((2,), ("left",)), ((3,), ("right",))))
        self.assertEqual(
            clusters(F),
            (((0,), ("fork",)), ((2,), ("check",)), ((3,), ("pay",)), ((4,), ("back", "pass")), ((5, 6), ("join",))),
        )

    def test_ascending_by_the_inputs(self):
        net = (5, (("a", (3,), (1,)), ("b", (2,), (1,)), ("c", (2,), (4,)), ("d", (0,), (2, 3)), ("e", (4,), (1,))))
        self.assertEqual(
            clusters(net), (((0,), ("d",)), ((2,), ("b", "c")), ((3,), ("a",)), ((4,), ("e",)))
        )
        net = (5, (("a", (0,), (2, 3, 4)), ("b", (2, 4), (1,)), ("c", (3,), (1,))))
        self.assertEqual(clusters(net), (((0,), ("a",)), ((2, 4), ("b",)), ((3,), ("c",))))

    def test_many_workflows(self):
        found = [net for net in random_nets(3000, 4, 4) if plain.defects(net) == ()]
        self.assertGreater(len(found), 50)
        for net in found + list(WORKFLOWS) + [choices(1), choices(40), chain(29)]:
            self.assertTrue(same(clusters(net), plain_clusters(net)), net)
            for at, (_, names) in enumerate(plain_clusters(net)):
                for name in names:
                    self.assertTrue(same(cluster_of(net, name), at), (net, name))

    def test_unknown_steps(self):
        for workflow in (F, C):
            for name in ODD + ("Fork", "forks", ["fork"]):
                if isinstance(name, str) and name in [step[0] for step in workflow[1]]:
                    continue
                raised = ("raised", "UnknownStep", {"name": name})
                self.assertTrue(same(outcome(cluster_of, workflow, name), raised), name)


class StepsAround(unittest.TestCase):

    def test_steps(self):
        for net in NETS + tuple(random_nets(30, 8, 8)) + (wide(28), choices(40)):
            for place in range(net[0]):
                into = tuple(name for name, _, outputs in net[1] if place in outputs)
                out = tuple(name for name, inputs, _ in net[1] if place in inputs)
                self.assertTrue(same(steps_into(net, place), into))
                self.assertTrue(same(steps_out_of(net, place), out))

    def test_input_and_output_of_one_step(self):
        self.assertEqual([steps_into(C, 2), steps_out_of(C, 2)], [("again", "begin"), ("again", "stop")])

    def test_no_steps(self):
        self.assertEqual([steps_into(F, 0), steps_out_of(F, 1)], [(), ()])

    def test_no_places(self):
        for net in (C, F, wide(28)):
            for place in ODD + (-1, net[0], net[0] + 1, True, "0", [0], (0,)):
                if type(place) is int and 0 <= place < net[0]:
                    continue
                raised = ("raised", "InvalidNumber", {"value": place})
                self.assertTrue(same(outcome(steps_into, net, place), raised), place)
                self.assertTrue(same(outcome(steps_out_of, net, place), raised), place)


if __name__ == "__main__":
    unittest.main()
