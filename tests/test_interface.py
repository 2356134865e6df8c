"""The interface: names, arguments, and the file in which each is defined."""

import importlib
import inspect
import unittest

FUNCTIONS = {
    "forms": [
        "is_integer(thing)", "is_name(thing)", "is_house(thing)", "is_set(house, thing)", "is_call(house, thing)",
        "is_amounts(house, thing)", "is_deed(house, thing)", "is_stretch(house, thing)", "is_log(house, thing)",
        "is_plain_log(house, thing)",
    ],
    "houses": [
        "accepting(house, kind)", "tail_of(house, call, kind)", "reordered(house, kinds)", "renamed_house(house, names)",
        "part_of(house, calls)", "with_call(house, kinds)",
    ],
    "texts": ["show_house(house)", "show_stretch(stretch)", "show_log(log)"],
    "reader": ["read_house(text)", "read_stretch(house, text)", "read_log(house, text)"],
    "play": [
        "told_by(house, log)", "taken_by(house, log)", "amounts_at(house, log, moment)", "there_at(house, log, moment)",
        "served_at(house, log)",
    ],
    "acts": [
        "acted(house, stretch, amounts)", "no_amounts(house)", "plus_amounts(one, other)", "kinds_taken(house, stretch, amounts)",
        "stretch_of(log)", "log_of(stretch)",
    ],
    "forks": ["forks_of(house)", "is_fork(house, thing)", "is_nested(house)", "next_kinds(house)"],
    "crossings": ["crossings_of(house)", "is_crossing(house, thing)"],
    "orders": [
        "accepted_less(house, one, other)", "nested_orders(house)", "nested_order(house)", "nearest_order(house)",
        "bound_pairs(house)",
    ],
    "exchange": [
        "may_change(house, one, other)", "same_by_exchange(house, one, other)", "parted_by(house, one, other)",
        "exchanged_to(house, stretch)", "least_exchanged(house, stretch)",
    ],
    "losing": ["losing_log(house)", "half_log(house, rounds)"],
    "begins": [
        "beginning_sets(house)", "least_beginning(house, part)", "count_in(amounts, part)", "counts_of(house, amounts)",
        "amounts_of(house, counts)",
    ],
    "briefs": [
        "brief_of(house, stretch)", "joined(house, one, other)", "acted_by(house, brief, amounts)", "is_brief(house, thing)",
    ],
    "alike": ["are_alike(house, one, other)", "parting_amounts(house, one, other)"],
    "unlike": ["unlike_stretches(house, many)", "acts_many(house, length)"],
    "best": [
        "best_of(house, log)", "giving_of(house, log)", "cover_of(house, log)", "is_giving(house, log, thing)",
        "is_cover(house, log, thing)", "best_at(house, log)", "needed_rows(house, log)",
    ],
    "together": [
        "giving_for(house, log, calls)", "lack_for(house, log, calls)", "is_lack(house, log, thing)",
        "dearest(house, log, worths)",
    ],
    "givers": [
        "is_giver(house, thing)", "best_first(house)", "first_refusal(house, giver)", "given_by(house, giver, log)",
        "served_by(house, giver, log)", "first_loss(house, giver, log)",
    ],
    "opponent": ["quarter_log(house, giver, many)"],
    "struck": [
        "struck(stretch, indexes)", "settled(house, stretch)", "can_be_struck(house, stretch, indexes)",
        "greatest_strikes(house, stretch)",
    ],
    "shortest": ["shortest_alike(house, stretch)", "shortest_with(house, brief, most)"],
    "wander": ["mended(log, mend)", "wander(house, log, mend)"],
    "woods": ["path_of(house, log, moment, sort, name)", "ends_of(house, log)"],
    "late": ["mended_by(log, mends)", "differs(house, log, mends)", "new_told(house, log, mend)"],
    "choices": [
        "is_choice(house, thing)", "best_choice(house)", "there_by(house, choice, log)", "unsteady(house, choice)",
        "parting_log(house, choice)",
    ],
    "asks": ["mends_that_serve(house, log, index)", "least_strikes(house, log, index, name)"],
    "lost": ["lost_ends(house, amounts, deeds, later)"],
    "ordering": ["order_with(house, amounts, deeds, later, part, number)"],
    "holes": [
        "holes_range(house, amounts, stretch, sorts, most, part)",
        "holes_stretch(house, amounts, stretch, sorts, most, part, number)",
        "taken_perhaps(house, amounts, stretch, sorts, most, index)",
        "sure_served(house, amounts, stretch, sorts, most, index)",
    ],
    "joint": ["joint_amounts(house, amounts, deeds)", "order_to(house, amounts, deeds, numbers)"],
    "weave": [
        "woven(one, other, weaving)", "woven_amounts(house, amounts, one, other)",
        "woven_range(house, amounts, one, other, part)", "weaving_to(house, amounts, one, other, part, number)",
    ],
    "needs": [
        "are_all_served(house, stretch, amounts)", "least_needs(house, stretch)", "cheapest_need(house, stretch, prices)",
    ],
    "turns": [
        "is_turn(house, thing)", "acted_days(house, turns, stretch, amounts)", "told_days(house, turns, log)",
        "kind_by(turns, kind, word)", "best_days(house, turns, log)",
    ],
    "daycalls": [
        "parts_later(house, turns, one, other)", "day_forks(house, turns)", "day_orders(house, turns)",
        "day_losing_log(house, turns)",
    ],
    "daybriefs": [
        "leads_back(house, turn, part)", "is_plain_turn(house, turn)", "day_brief(house, turns, stretch)",
        "acted_by_days(house, brief, amounts)",
    ],
    "mirrored": [
        "mirrored(house, preference)", "mirrored_log(house, preference, log)", "played_waiting(house, preference, log)",
        "best_waiting(house, log)", "best_waiting_at(house, log)", "waiting_crossing(house)", "best_preference(house)",
    ],
    "both": [
        "played_both(house, log)", "pairing_of(house, log)", "both_at(house, log)", "best_both_at(house, log)",
        "best_both(house, log)", "is_pairing(house, log, thing)", "loses_both(house)",
    ],
    "copies": [
        "copy_of(log, lacks)", "apart_at(house, log, one, other)", "same_told(house, log, one, other)",
        "sure_told(house, log, most)",
    ],
    "explain": [
        "explains(house, log, lacks, answers)", "least_lacks(house, log, answers, most)",
        "lacks_told(house, log, answers, most)",
    ],
    "designs": [
        "least_calls_out(house)", "calls_to_add(house)", "merges_that_nest(house)", "merged(house, one, other)",
        "nested_by(house)",
    ],
    "sides": ["beside(one, other)", "parted(one, other, stretch)", "laid(one, other, mine, its)"],
}

METHODS = {
    ("store", "Store(house)"): [
        "put(self, name, kind)", "take(self, call)", "drop(self, name)", "there(self)", "amounts(self)", "rows(self)", "twin(self)",
    ],
    ("book", "Book(house)"): [
        "tell(self, day, deed)", "strike(self, index)", "begin(self, amounts)", "forget(self, day)", "number_of(self, part, day)",
        "rows(self)", "kept_brief(self)", "amounts(self, day)", "brief_of(self, first, last)", "first_day(self)", "back(self)",
        "again(self)", "twin(self)",
    ],
    ("desk", "Desk(text)"): ["execute(self, line)", "book(self)"],
}


class InterfaceTest(unittest.TestCase):

    def test_functions(self):
        for file, signatures in FUNCTIONS.items():
            module = importlib.import_module("calledbest." + file)
            for signature in signatures:
                function = getattr(module, signature.partition("(")[0])
                self.assertTrue(inspect.isfunction(function))
                self.assertEqual(function.__module__, "calledbest." + file)
                self.assertEqual(function.__name__ + str(inspect.signature(function)), signature)

    def test_classes(self):
        for (file, signature), methods in METHODS.items():
            module = importlib.import_module("calledbest." + file)
            made = getattr(module, signature.partition("(")[0])
            self.assertEqual(made.__module__, "calledbest." + file)
            self.assertEqual(made.__name__ + str(inspect.signature(made)), signature)
            for method in methods:
                function = vars(made)[method.partition("(")[0]]
                self.assertEqual(function.__name__ + str(inspect.signature(function)), method)


if __name__ == "__main__":
    unittest.main()
