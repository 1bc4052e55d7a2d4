"""The main guarantee, over the whole program: compiled terms, libraries and the running cases of an office."""

import unittest
from random import Random

from caseflow.cases.cases import runs_of_case
from caseflow.cases.numbers import complete_cases
from caseflow.editions.markings import is_occurrence_paper, occurrence_paper, occurs
from caseflow.library.library import expand, full_cost
from caseflow.nets.clusters import clusters
from caseflow.nets.runs import first_marking, last_marking, reachable_markings
from caseflow.office.office import Office
from caseflow.readings.chances import expected_cost, is_value_table
from caseflow.readings.extremes import greatest_paper, is_greatest_paper, is_least_paper, least_paper
from caseflow.readings.orders import is_closed_plan, order_plan, planned_run, weight_sum
from caseflow.sound.faults import find_fault, is_fault
from caseflow.sound.papers import is_sound, is_structure_paper, structure_paper
from caseflow.sound.tables import finish_table, is_finish_table
from caseflow.terms.shapes import collapse, largest_part, part_workflow
from caseflow.terms.terms import workflow_term
from caseflow.text.formats import format_net, parse_net
from caseflow.text.shell import Shell
from tests import plain, plain_readings, plain_terms
from tests.built import led_to
from tests.samples import copy_of, label, same
from tests.test_library import SMALL


def compiled(many, size, seed):
    """Returns so many workflows of drawn terms with at most so many steps."""
    chance = Random(seed)
    found = []
    while len(found) < many:
        names = [label(k) for k in range(chance.randint(1, size))]
        workflow = plain_terms.workflow(plain_terms.drawn(chance, names, chance.randint(1, 5)))
        if workflow[0] <= 12:
            found.append(workflow)
    return found


def with_a_fault(chance, workflow):
    """Returns the workflow in which a step leads to other places, if that is a workflow, too, and otherwise itself."""
    name, _, outputs = chance.choice(workflow[1])
    other = tuple(sorted({chance.randrange(1, workflow[0]), chance.choice(outputs)}))
    net = led_to(workflow, name, other)
    return net if plain.defects(net) == () else workflow


def orders(chance, workflow, many):
    numbers = list(range(len(clusters(workflow))))
    return [tuple(chance.sample(numbers, len(numbers))) for _ in range(many)]


class Guarantee(unittest.TestCase):

    def test_exactly_one_kind_of_paper(self):
        chance = Random(501)
        kinds = {True: 0, False: 0}
        for workflow in compiled(120, 10, 502):
            workflow = with_a_fault(chance, workflow)
            paper, fault, table = structure_paper(workflow), find_fault(workflow), finish_table(workflow)
            sound = paper[0] == "sound"
            kinds[sound] += 1
            self.assertIs(is_structure_paper(workflow, paper), True)
            self.assertEqual([fault is None, table is not None, is_sound(workflow)], [sound] * 3)
            if sound:
                self.assertIs(is_finish_table(workflow, table), True)
            else:
                self.assertIs(is_fault(workflow, fault), True)
        self.assertGreater(min(kinds.values()), 20)

    def test_one_order_is_enough(self):
        """Whichever enabled cluster is handled next, each case is met exactly once."""
        chance = Random(503)
        for workflow in compiled(40, 8, 504):
            runs = list(complete_cases(workflow, longest=8))
            plans = [order_plan(workflow, order=order) for order in orders(chance, workflow, 3)]
            for run in runs[:6]:
                case = list(runs_of_case(workflow, run)) if len(run) < 8 else [run]
                for plan in plans:
                    self.assertIs(is_closed_plan(workflow, plan), True)
                    self.assertIn(planned_run(workflow, run, plan), list(runs_of_case(workflow, run)))
                    self.assertEqual({planned_run(workflow, other, plan) for other in case[:9]}, {
                        planned_run(workflow, run, plan)})

    def test_readings_do_not_depend_on_the_order(self):
        chance = Random(505)
        for workflow in compiled(40, 10, 506):
            costs = tuple(chance.randint(0, 9) for _ in workflow[1])
            weights = tuple(chance.randint(-9, 9) for _ in workflow[1])
            for order in orders(chance, workflow, 3):
                self.assertEqual(weight_sum(workflow, weights, order=order), weight_sum(workflow, weights))
                plan = order_plan(workflow, order=order)
                values = plain_readings.values(workflow, plan, plain_readings.chances_of(workflow, None), costs)
                table = {key: plain_readings.as_pair(value) for key, value in values.items()}
                self.assertIs(is_value_table(workflow, (plan, table), costs=costs), True)
                self.assertEqual(table[first_marking(workflow)], expected_cost(workflow, costs=costs))
            self.assertIs(is_least_paper(workflow, least_paper(workflow, costs=costs), costs=costs), True)
            self.assertIs(is_greatest_paper(workflow, greatest_paper(workflow, costs=costs), costs=costs), True)

    def test_steps_replaced_by_workflows(self):
        for library, name in SMALL[:60]:
            workflow, chances, costs, _ = expand(library, name)
            self.assertEqual(full_cost(library, name), expected_cost(workflow, chances=chances, costs=costs))
            self.assertIs(is_structure_paper(workflow, structure_paper(workflow)), True)
        compared = 0
        for workflow in compiled(60, 10, 507):
            for first, last in ((0, 1), (0, 2), (2, 1), (2, 3), (3, 2)):
                part = largest_part(workflow, first, last) if max(first, last) < workflow[0] else None
                if part is None:
                    continue
                inner = part_workflow(workflow, first, last, part)
                outer = collapse(workflow, first, last, part, part[0])
                self.assertEqual([is_sound(inner), is_sound(outer)], [True, True])
                # The new step costs nothing but what the case of the part costs.
                costs = tuple(int(step[0] != part[0]) for step in outer[1])
                library = (("inner", inner, None, None, ()), ("outer", outer, None, costs, ((part[0], "inner", 1),)))
                # If another step begins there, too, the chances are other ones.
                if not [step for step in workflow[1] if first in step[1] and step[0] not in part]:
                    self.assertEqual(full_cost(library, "outer"), expected_cost(workflow))
                    compared += 1
        self.assertGreater(compared, 60)

    def test_occurring_markings(self):
        chance = Random(508)
        for workflow in compiled(40, 10, 509):
            reached = reachable_markings(workflow)
            tried = list(reached)[:6] + [tuple(chance.choice((0, 0, 1)) for _ in range(workflow[0])) for _ in range(6)]
            for marking in tried:
                paper = occurrence_paper(workflow, marking)
                self.assertIs(occurs(workflow, marking), marking in reached)
                self.assertIs(paper[0] == "run", marking in reached)
                self.assertIs(is_occurrence_paper(workflow, marking, paper), True)

    def test_running_cases(self):
        """After any sequence of operations the marking of each case occurs, and its future is that of the marking."""
        chance = Random(510)
        for workflow in compiled(20, 9, 511):
            costs = tuple(chance.randint(0, 5) for _ in workflow[1])
            office = Office()
            office.publish(workflow, costs=costs)
            office.publish(workflow)
            office.start("one")
            for _ in range(12):
                kind = chance.choice(("do", "do", "do", "undo", "redo", "move"))
                enabled = office.enabled("one")
                if kind == "do" and enabled:
                    office.do("one", chance.choice(enabled))
                elif kind == "move":
                    office.move("one", chance.randrange(2))
                elif kind == "undo" and len(office.log()) > 3:
                    office.undo()
                edition, marking, _ = office.state("one")
                prices = office.editions()[edition][2]
                self.assertIs(occurs(workflow, marking), True)
                plan = order_plan(workflow)
                values = plain_readings.values(workflow, plan, plain_readings.chances_of(
                    workflow, None), plain_readings.costs_of(workflow, prices))
                if marking in values:
                    self.assertEqual(office.remaining("one"), plain_readings.as_pair(values[marking]))
                cost, run = office.cheapest("one")
                passed = plain.follow(workflow, run, marking)
                self.assertEqual(passed[-1], last_marking(workflow))
                self.assertEqual(cost, sum(plain_readings.of_run(workflow, plain_readings.costs_of(workflow, prices), run)))

    def test_texts_and_terms(self):
        shell = Shell()
        for workflow in compiled(40, 12, 512):
            term = workflow_term(workflow)
            self.assertTrue(same(parse_net(shell.run("term " + str(term))), term.workflow()))
            self.assertEqual(plain_terms.form(term.workflow()), plain_terms.form(workflow))
            self.assertEqual(shell.run("sound\n" + format_net(workflow)), "sound")
            self.assertTrue(same(parse_net(format_net(copy_of(workflow))), workflow))


if __name__ == "__main__":
    unittest.main()
