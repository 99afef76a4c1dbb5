"""The section "The interface": names, arguments and files as they are written there."""

import importlib
import inspect
import unittest

# For each module its functions, and its classes with their methods and properties.
FUNCTIONS = {
    "wholes": ("is_whole(thing, low=None, high=None)", "is_sequence(thing)"),
    "orders": ("is_course(order, states)",),
    "makers": (
        "chain_order(n)", "flat_order(n)", "product_order(one, other)", "beside_order(one, other)",
        "stacked_order(one, other)", "without_state(order, state)", "renamed_order(order, names)",
        "facts_order(facts, rules)", "words_order(letters, depth)", "upper_order(order, state)"),
    "datatext": ("check_data(data)", "read_data(text)", "data_text(data)"),
    "shapes": (
        "shape_fault(data, shape)", "fits_shape(data, shape)", "check_shape(data, shape)", "read_shaped(text, shape)"),
    "ordertext": ("order_text(order)", "read_order(text)"),
    "rows": (
        "check_count(m, most=24)", "check_row(m, row)", "count_falling(m, d)", "count_all_rows(m)", "row_place(m, row)",
        "row_at(m, d, place)", "row_number(m, row)", "row_numbered(m, number)", "all_rows(m)", "begins_row(one, other)",
        "first_meeting(rows)", "which_begins(rows, row)", "unspent_frames(m, row)", "spell_row(left, row)",
        "count_among(left, row)", "first_time_row(frames)"),
    "dealing": (
        "free_rows(k, d, taken)", "is_full(k, taken)", "deal_rows(k, lengths, taken=())", "weight_of(k, lengths)",
        "lengths_fit(k, lengths)", "deal_shortage(k, lengths, taken=())", "dealing_fault(k, lengths, rows, taken=())"),
    "needs": (
        "least_count(needs)", "need_table(order)", "need_of(order)", "need_fault(order, table)", "spare_table(order)",
        "need_paper(order)", "paper_fault(order, paper)", "changed_needs(old, table, new)"),
    "plans": ("plan_fault(order, state, k, plan)", "plan_of_lengths(order, state, k, lengths)"),
    "codes": (
        "code_fault(code)", "reached_couples(code)", "deep_code(order, m)", "code_length(code)", "widened_code(code, m)",
        "code_above(code, state, k)", "code_text(code)", "read_code(order, text)"),
    "quick": ("fewest_table(order, m)", "fewest_frames(order, m)", "quick_code(order, m)"),
    "coursing": (
        "route_between(order, low, high)", "course_row(code, course)", "read_place(code, row)", "told_course(code, row)",
        "shown_state(code, row)", "next_frames(code, row)", "each_row(code)"),
    "ends": (
        "start_sender()", "sent_frame(sender)", "aim_of(code, row, risen)", "aim_frame(code, row, risen)",
        "hear_rise(code, sender, state)", "hear_ack(code, sender, frame)", "hear_frame(row, frame)", "ack_frame(row)"),
    "nets": ("net_text(net)", "read_net(text)"),
    "tables": ("table_text(table)", "read_table(text)"),
    "runs": (
        "walk(system, run)", "end_of(system, run)", "lean_run(system, run)", "run_fault(system, run)",
        "loop_fault(system, run, loop)", "round_from(system, standing, held=())", "view_of(net, run, nodes)",
        "read_run(text)", "run_text(run)"),
    "cuts": (
        "is_thick(net, link)", "check_side(net, side)", "frames_across(net, side)", "count_across(net, side)",
        "count_unsent(net, side, sent)", "each_side(net)", "least_cut(net)"),
    "flows": (
        "paths_fault(net, paths)", "path_nodes(net, path)", "greatest_paths(net, most)", "more_paths(net, paths, most)",
        "side_of_paths(net, paths)", "is_tight(net, side, paths)", "free_paths(net, paths, sent)"),
    "netedits": ("paths_without(net, paths, link)", "healed_paths(net, paths, link, most)"),
    "lots": (
        "fair_lots(wants, arcs)", "is_fair_lot(wants, arcs, lot)", "fair_tour(wants, arcs, lot, vertex)",
        "tour_fault(wants, arcs, vertex, tour)", "no_lot_paper(wants, arcs)", "no_lot_fault(wants, arcs, steps)"),
    "outcomes": ("breaks(system, outcome)",),
    "verdicts": (
        "reached(system, most=30000)", "run_to(system, standing, most=30000)", "judge(system, most=30000)",
        "wrong_graph(system, standings)", "right_paper(system, most=30000)", "right_fault(system, paper)"),
    "foe": (
        "settle(system, standing, held=(), most=30000)", "told_apart(system, run, targets, side, most=30000)",
        "break_by(system, side, most=30000)"),
    "compiled": (
        "pair_net(m)", "sender_seats(code)", "receiver_seats(code)", "pair_of(code)", "pair_system(code)",
        "relay_table(net, paths, node)", "net_of(code, net, paths)", "net_system(code, net, paths)"),
    "folds": ("fold_run(net, paths, run)", "unfold_run(net, paths, run)", "rounds_due(paths, m)"),
    "goals": (
        "check_goals(order, goals)", "deal_goals(order, goals, m)", "goal_rows_fault(order, goals, m, rows)",
        "fewest_goal_frames(order, goals)", "is_told(order, lot, k)", "refusal_of(order, goals, m)",
        "refusal_fault(order, goals, m, paper)", "rows_system(order, goals, m, rows)", "goal_rows_of_code(code, goals)"),
    "sets": (
        "deal_sets(order, goals, m)", "goal_sets_fault(order, goals, m, sets)", "fewest_set_frames(order, goals)",
        "sets_system(order, goals, m, sets)", "is_silent(system)", "break_sets(system)"),
    "pairs": (
        "pair_end(pair, run)", "pair_run_fault(pair, run)", "pair_loop_fault(pair, run, loop)", "pair_round(pair, standing)",
        "judge_pair(pair, most=30000)"),
    "streams": (
        "count_words(m, d)", "check_word(m, word)", "digits_to_word(m, digits)", "word_to_digits(m, word)"),
    "ordered": (
        "fits_ordered(order, m, goals=None)", "ordered_pair(order, m, goals=None)", "chains_or_three(order, goals)"),
    "pairfoe": ("break_pair(pair)",),
    "keeper": ("keeper_text(keeper)", "read_keeper(text)", "keeper_twin(keeper)"),
    "stories": (
        "play_story(deeds)", "story_fault(deeds)", "story_answers(deeds)", "story_text(deeds)", "read_story(text)"),
}
CLASSES = {
    ("orders", "Order(n, pairs)"): (
        "at_most(self, one, other)", "covers(self, state)", "above(self, state)", "below(self, state)",
        "height(self, state)", "count_courses(self, state)", "each_course(self, state)", "__len__(self)",
        "__eq__(self, other)"),
    ("codes", "Code(order, m, entries)"): ("plan_at(self, state, k)", "__eq__(self, other)"),
    ("coursing", "Place(state, unspent, begun, follows)"): ("__eq__(self, other)",),
    ("nets", "Net(nodes, source, sink, links)"): (
        "sender(self, link, way)", "receiver(self, link, way)", "links_of(self, node)", "with_link(self, link)",
        "without_link(self, link)", "__len__(self)", "__eq__(self, other)"),
    ("tables", "NodeTable(sends, moves, rises=None, shows=None)"): (
        "next_seat(self, seat, link, frame)", "next_on_rise(self, seat, state)", "__len__(self)", "__eq__(self, other)"),
    ("systems", "System(net, tables, order, goals=None, spent=())"): (
        "first(self)", "deeds_from(self, standing)", "after(self, standing, deed)", "shown(self, standing)",
        "sending(self, standing)", "is_quiet(self, standing)", "is_settled(self, standing)"),
    ("outcomes", "Above(run)"): ("__eq__(self, other)",),
    ("outcomes", "Back(run)"): ("__eq__(self, other)",),
    ("outcomes", "Stuck(run, loop)"): ("__eq__(self, other)",),
    ("outcomes", "Told(rows)"): ("__eq__(self, other)",),
    ("pairs", "OrderedPair(order, frames, tables, goals=None)"): (
        "first(self)", "deeds_from(self, standing)", "after(self, standing, deed)", "shown(self, standing)",
        "sending(self, standing)"),
    ("streams", "StreamSource(m, digits=())"): ("put(self, digits)", "hear(self, frame)"),
    ("streams", "StreamSink(m)"): ("hear(self, frame)",),
    ("keeper", "Keeper(order, net)"): (
        "sent_on(self, link, way)", "read_from(self, link, way)", "deeds_now(self)", "do_deed(self, deed)",
        "small_steps(self, deed)", "do_part(self, deed, many)", "disk_of(self, node)", "quiet_now(self)",
        "settled_now(self)", "calm_down(self)", "change_order(self, order)"),
    ("desk", "Desk()"): (
        "do(self, deed)", "verdict_now(self)", "broken_now(self, side)", "tried(self, work)", "trial(self)",
        "__len__(self)", "__iter__(self)"),
}
PROPERTIES = {("orders", "Order"): ("ends",), ("keeper", "Keeper"): ("shown_now", "risen_now", "left_now", "asleep_now")}
GENERATORS = {("orders", "Order.each_course"), ("rows", "all_rows"), ("coursing", "each_row"), ("runs", "walk"),
              ("cuts", "each_side"), ("stories", "story_answers")}


def described(name, thing):
    return name + str(inspect.signature(thing))


class Interface(unittest.TestCase):
    def found(self, module, path):
        """Return what stands under a name, and check that it is defined in that file."""
        thing = importlib.import_module("spentframes." + module)
        for name in path.split("."):
            thing = vars(thing)[name]
        self.assertEqual(thing.__module__, "spentframes." + module)
        return thing

    def test_functions(self):
        for module, lines in FUNCTIONS.items():
            for line in lines:
                name = line.split("(")[0]
                thing = self.found(module, name)
                self.assertTrue(inspect.isfunction(thing))
                self.assertEqual(described(name, thing), line)

    def test_classes_and_their_own_methods(self):
        for (module, line), methods in CLASSES.items():
            name = line.split("(")[0]
            self.assertEqual(described(name, self.found(module, name)), line)
            for method in methods:
                word = method.split("(")[0]
                self.assertEqual(described(word, self.found(module, name + "." + word)), method)

    def test_properties(self):
        for (module, name), words in PROPERTIES.items():
            for word in words:
                self.assertIsInstance(vars(self.found(module, name))[word], property)

    def test_generators(self):
        for module, path in GENERATORS:
            self.assertTrue(inspect.isgeneratorfunction(self.found(module, path)))
