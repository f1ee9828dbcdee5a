"""The interface: names, arguments and files."""

import importlib
import inspect
import unittest

FUNCTIONS = {
    "houses": ["beside(house, room)"],
    "ways": ["way(house, one, other)", "least_way(house, some)", "meeting(house, one, other, third)",
             "behind(house, room, other)"],
    "carryings": ["is_carrying(house, thing)", "stays(house, carrying)", "passes(house, carrying)",
                  "first_lit(house, carrying)", "stays_by(house, counted, first, last)"],
    "ledgers": ["is_ledger(house, thing)", "ledger_of(house, carrying)", "lit_rooms(house, ledger)",
                "lit_parts(house, ledger)", "lit_house(house, ledger)"],
    "otherhouses": ["part_of(house, some)", "built_on(house, room, name)", "joined_by(one, other, room, far)",
                    "renamed(house, names)"],
    "onelaw": ["lacking_rooms(house, ledger)", "short_rooms(house, ledger)", "holds(house, ledger)",
               "paper_of(house, ledger)", "is_paper(house, ledger, thing)", "claim_fault(house, ledger, thing)"],
    "goingon": ["first_carrying(house, ledger)", "next_rooms(house, ledger, begun)", "lost_at(house, ledger, begun)"],
    "lighters": ["run_lighter(house, ledger, lighter)", "beat_near(reach, lighter)",
                 "judge_fault(house, judge, hours)"],
    "leastledgers": ["least_ledgers(house)", "shortest_carrying(house)", "ledgers_with(house, hours)"],
    "busycarryings": ["stillest(house, ledger)", "busiest(house, ledger)"],
    "ends": ["needs(house, first, last)", "carrying_between(house, ledger, first, last)",
             "lacking(house, ledger, first, last)", "ends(house, ledger)", "count_ends(house, ledger)",
             "lasts(house, ledger, first)", "barred(house, ledger, first)", "back_at(house, ledger)"],
    "light": ["sure_parts(house, ledger, first, last)", "first_light(house, ledger, first, last, room)",
              "last_light(house, ledger, first, last, room)",
              "carrying_lit(house, ledger, first, last, room, when)", "light_of_all(house, ledger, room)"],
    "leavinglists": ["leavings(house, carrying)", "carried_by(house, lists, first)", "exchanges(house, carrying)",
                     "exchange_distance(house, one, other)", "exchange_row(house, one, other)"],
    "counting": ["count_with(house, ledger, counted, first, last)", "count_between(house, ledger, first, last)",
                 "ends_table(house, ledger)", "count_carryings(house, ledger)", "own_reverses(house, ledger)",
                 "rows_behind(house, ledger, room, other)"],
    "numbering": ["carrying_at(house, ledger, number)", "carrying_number(house, carrying)",
                  "next_carrying(house, carrying)", "count_begun(house, ledger, begun)"],
    "rowcounts": ["count_lighting(house, hours)", "count_rows(house, hours)"],
    "boxes": ["is_possible(house, box, thing)", "wiped(house, ledger, some, most)", "needed_rooms(house, box)",
              "box_fault(house, box)", "some_ledger(house, box)", "can_light(house, box)"],
    "roomhours": ["room_hours(house, box, room)", "shortness(house, box)", "sums_between(house, box)"],
    "prices": ["least_price(house, box, prices)", "dear_way(house, box, prices)",
               "heights(house, box, prices, number)", "are_heights(house, box, prices, number, thing)"],
    "lots": ["ledger_with(house, box, lots, sums)", "lots_fault(house, box, lots, sums)"],
    "boxcounts": ["count_possible(house, box)", "kth_possible(house, box, number)", "index_of(house, box, ledger)"],
    "boxends": ["box_ends(house, box)", "door_passes(house, box, one, other)"],
    "added": ["is_full(house, thing)", "wanted_hours(house, ledger)", "fewest_added(house, ledger)",
              "all_added(house, ledger)", "cheapest_added(house, ledger, prices)"],
    "pricepapers": ["price_paper(house, ledger, prices, budget)",
                    "is_price_paper(house, ledger, prices, budget, thing)"],
    "moved": ["least_sum(house)", "fewest_moved(house, ledger)", "moved_ledger(house, ledger)",
              "change_table(house, ledger)"],
    "taken": ["most_taken(house, ledger)", "least_below(house, ledger)", "fewest_rooms(house, ledger)",
              "strength(house, ledger)", "weak_spots(house, ledger)", "mending_doors(house, ledger)"],
    "severallamps": ["is_lamp_rows(house, ledger, thing)", "lamps_wanted(house, ledger)",
                     "lamp_rows(house, ledger, number)", "branch_asks(house, ledger)"],
    "lodges": ["lodge_rows(house, ledger, room, number)", "lodge_wanted(house, ledger, room)",
               "lodge_leads(house, ledger, room)", "lodge_short(house, ledger, room)"],
    "roundlamps": ["round_wanted(house, ledger)", "round_rows(house, ledger, number)"],
    "toldends": ["rows_between(house, ledger, ends)", "bare_choices(house, ledger, ends)"],
    "apartways": ["apart_ways(house, number)", "hours_for(house, number)", "ledger_for(house, number)"],
    "orders": ["is_order(house, thing)", "order_of(house, carrying)", "runs_behind(house, order, room)",
               "order_needs(house, order)", "order_fault(house, ledger, order)",
               "carrying_in_order(house, ledger, order)"],
    "orderends": ["ends_of_order(house, ledger, order)", "carrying_to(house, ledger, order, last)",
                  "ends_by_light(house, ledger)"],
    "begun": ["begins(house, ledger, order)", "gone_on(house, ledger, order)", "next_lit(house, ledger, order)"],
    "ordercounts": ["orders_of(house, ledger)", "count_orders(house, ledger)",
                    "order_numbered(house, ledger, number)", "order_number(house, ledger, order)",
                    "count_all(house)", "lit_ahead(house, ledger, room, other)"],
    "lighthours": ["last_lit(house, carrying)", "hours_fault(house, hours)", "carrying_by_hours(house, hours)",
                   "carrying_with(house, ledger, hours)"],
    "branches": ["hung(branches, hours)", "cut_off(house, ledger, room, other)", "word_of(branch)",
                 "added_word(words)", "asks(branch)", "goes(branches, hours)"],
    "alikebranches": ["surrounding(one, other)", "is_surrounding(one, other, thing)",
                      "least_branch(ends, rim_hours)"],
    "branchrows": ["rows_of(branch)", "count_apart(one, other)"],
    "boxed": ["word_counts(boxed)", "least_hours(boxed)", "going_count(boxed, branches, hours)",
              "box_apart(one, other)", "is_box_apart(one, other, thing)"],
    "vectors": ["added_counts(one, other)", "raised_counts(vector, doors, least, most)",
                "whole_count(vector, doors, least, most)"],
    "twins": ["are_twins(one, other)", "parting_ledger(one, other)", "bare_hours(house)", "bad_threes(house)",
              "pieces_of(house)", "plain_twin(house)", "twin_count(house)"],
    "keepers": ["told_back(rooms, keeper)"],
    "records": ["fitting(rooms, records)", "sure_doors(rooms, records)", "possible_doors(rooms, records)",
                "hours_between(rooms, records)", "record_clash(rooms, records)"],
    "askers": ["questions_left(rooms, records)", "best_question(rooms, records)",
               "beat_asker(rooms, records, asker, many)"],
    "entrystamps": ["entries(house, carrying)", "stamps(house, carrying)", "unused_door(house, marks)",
                    "first_by_entries(house, marks)", "lasts_by_stamps(house, marks)"],
    "stamped": ["ends_by_stamps(house, ledger, marks)", "stamped_carrying(house, ledger, marks)",
                "ends_by_all(house, ledger, marks, counted)"],
    "doorcounts": ["counters(house, carrying)", "odd_rooms(house, counted)", "counted_ends(house, counted)",
                   "ends_by_counters(house, ledger, counted)", "counted_carrying(house, ledger, counted)"],
    "somecounted": ["possible_counters(house, ledger, known, door)", "moves_between(house, ledger, first, last)",
                    "possible_moves(house, ledger)"],
    "leavingbooks": ["books_of(house, carrying)", "read_from(house, books, first)", "book_ends(house, books)"],
    "endchances": ["drawn_by(house, ledger, chooser)", "ends_chances(house, ledger)", "first_chances(house, ledger)",
                   "door_chances(house, ledger, one, other)", "mean_passes(house, ledger)",
                   "stay_chances(house, ledger, place)", "mean_stays(house, ledger)"],
    "hourchances": ["hour_chances(house, ledger, hour)", "room_chances(house, ledger, place)"],
    "lightchances": ["light_chances(house, ledger, place)", "mean_light(house, ledger)",
                     "ahead_chance(house, ledger, one, other)"],
    "seenchances": ["seen_chance(house, ledger, seen)", "hour_given(house, ledger, seen, hour)",
                    "last_given(house, ledger, seen)"],
    "homesteadtexts": ["write_homestead(homestead)", "read_homestead(text)"],
}

CLASSES = [
    ("houses", "House", "(rooms, doors)", ["rooms()", "doors()", "__len__()", "__eq__(other)"]),
    ("branches", "Branch", "(house, rim, hours)", ["parts()", "__eq__(other)"]),
    ("boxed", "Boxed", "(house, rim, box)", ["parts()", "__eq__(other)"]),
    ("homesteads", "Homestead", "(name)", [
        "now()", "book()", "lamp()", "watched()", "do(deed)", "is_question(thing)", "answer(question)", "would(deed)",
        "mending_rooms()", "count()", "undo()", "again()", "deeds()", "at(number)", "copy()", "trial(work)",
        "__eq__(other)"]),
]


class InterfaceTest(unittest.TestCase):
    def test_functions(self):
        for file, signatures in FUNCTIONS.items():
            module = importlib.import_module(f"lamplight.{file}")
            for signature in signatures:
                name = signature.split("(")[0]
                function = getattr(module, name)
                self.assertTrue(inspect.isfunction(function))
                self.assertEqual(name + str(inspect.signature(function)), signature)
                self.assertEqual(function.__module__, f"lamplight.{file}")

    def test_classes(self):
        for file, name, signature, methods in CLASSES:
            each = getattr(importlib.import_module(f"lamplight.{file}"), name)
            self.assertEqual(str(inspect.signature(each)), signature)
            self.assertEqual(each.__module__, f"lamplight.{file}")
            for method in methods:
                name, rest = method[:-1].split("(")
                self.assertIn(name, vars(each))
                self.assertEqual(list(inspect.signature(vars(each)[name]).parameters), ["self"] + rest.split())


if __name__ == "__main__":
    unittest.main()
