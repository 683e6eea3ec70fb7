"""Each name of the interface stands in the file under which it is listed, with the arguments that are shown."""

import ast
import importlib
import inspect
import pathlib
import unittest

ROOT = pathlib.Path(__file__).resolve().parent.parent

INTERFACE = {
    "ratios": """is_fraction(thing), fraction(top, bottom), whole(number), plus(x, y), minus(x, y), times(x, y), over(x, y),
        power_of(x, many), is_less(x, y), sign_of(x), ratio_text(x), ratio_by(text), is_row(thing, many), dot(row, other),
        applied(matrix, row), product(matrix, other), rank(rows), space_of(rows, many), is_space(thing, many),
        in_space(space, row), zeros_of(rows, many), combination(rows, row)""",
    "polys": """is_powersum(thing), trimmed(row), poly_plus(poly, other), poly_times(poly, other), poly_scaled(poly, x),
        poly_value(poly, x), poly_rate(poly), divided(poly, other), common_divisor(poly, other), square_free(poly),
        roots_between(poly, low, high), isolated(poly, low, high, width), is_isolated(poly, low, high, width, thing),
        never_below(poly)""",
    "tables": """is_table(thing, many), is_sheet(thing, many), is_explicit(sheet), put_in_order(sheet), renamed(sheet, order),
        part_places(sheet), behind(table, other), scaled(table, x), undone(table), mixed(tables, shares),
        beside(sheet, other), told(sheet, number), sheet_of(table), repeated(table, n), rounds(table, n),
        spread(table, many), only(table, part)""",
    "changes": """is_poly(thing, many), is_change(thing), poly_at(poly, start), plus_polys(poly, other),
        times_polys(poly, other), scaled_poly(poly, x), slope_poly(poly, cell), part_rates(change, part, start),
        whole_rates(change, start), whole_change(change), degree_of(change), is_ladder(change), is_kept(change, poly),
        is_kept_by(change, part, poly), tree_change(tree, many)""",
    "engine": """points_of(sheet, change, start, h), run_of(sheet, change, start, h),
        is_solution(sheet, change, start, h, points), told_from(sheet, change, start, h, points),
        series_run(sheet, change, start, power), flow_series(change, start, power), row_series(change, row, start, power),
        unlike_at(series, other), series_at(series, h)""",
    "trees": """is_tree(thing), made_tree(part, branches), places_of_tree(tree), number_of(tree), trees_of(parts, places),
        cuts(tree)""",
    "weights": """tree_row(sheet, tree), weight(table, tree), weights_of(table, places), flow_weights(parts, places),
        is_weights(parts, places, thing), behind_weights(weights, others), back_weights(weights),
        scaled_weights(weights, x), root_weights(weights, n), misses(table, places)""",
    "lots": """is_parting(sheet, thing), is_even(sheet, parting), is_finer(parting, second), lots(sheet),
        lot_of(sheet, stage), lots_within(sheet, parting), joined_parting(parting, second), parting_steps(sheet),
        parted_after(sheet, stage, other), lot_sheet(sheet, parting), laid_out(parting, row), even_partings(sheet)""",
    "least": """hanging(sheet), least_sheet(sheet), least_table(table), is_least(sheet), stages_to(sheet),
        matching(sheet, other), is_matching(sheet, other, thing), blocks(sheet), solved_at_once(sheet), must_solve(sheet),
        split_stage(sheet, stage, share)""",
    "leastpower": """place_space(sheet, many), space_to(sheet, many), parting_power(table, other), least_tree(table, other),
        order_to(table, most), first_miss(table, most), parting_ladder(table, other),
        is_parting_ladder(table, other, thing)""",
    "alike": """is_alike(table, other), unlike_sums(table, other), one_cell_paper(table, other),
        is_one_cell_paper(table, other, thing), degree_space(sheet, degree), told_space(sheet, degree),
        alike_to(table, other, degree), least_degree(table, other), degree_ladder(table, other), sharp_pair(many)""",
    "flowrows": """is_flowrow(thing), is_meets(thing), row_turned(row), row_joined(row, other), row_scaled(row, x),
        row_sums(row, many), normal_row(row), is_same(row, other), normal_with(row, meets), is_same_with(row, other, meets),
        layers(row, meets), meets_for(row, other, many)""",
    "letters": """is_word(thing, many), is_lyndon(word), lyndon_words(many, power), lyndon_count(many, length),
        shuffles(word, other)""",
    "parting": """word_worth(row, word), parting_word(row, other), is_push(thing), cell_push(many), spring_push(),
        push_change(push), flow_table(row, push), flow_at(row, push, h, state), one_step(row, other),
        parting_run(row, other), is_parting_run(row, other, thing)""",
    "flowpower": """ring_of(row), part_power(row, other), cell_power(row, other), power_paper(row, other),
        is_power_paper(row, other, thing)""",
    "roworders": """marks_of(row, many, power), whole_marks(many, power), worth_by(marks, many, word),
        joined_marks(marks, others, many), order_of(row, many), order_with(row, many, meets), commutator_row(word),
        row_for(many, marks), row_of_order(many, power), is_row_for(many, marks, thing), mix_order(mix, many)""",
    "signs": """least_row(many, power), sign_sum(row, a, b), sign_steps(row, a, b), below_parts(row), sign_paper(mix),
        is_sign_paper(mix, thing)""",
    "flowloops": """seen_through(row, other), is_seen_through(row, other, thing), row_rounds(row, n), is_product(thing),
        product_at(product, n), first_apart(product, other), is_form_row(thing), same_at(row, other)""",
    "plans": """is_plan(thing), ways(plan)""",
    "planruns": """plan_sheet(plan, ways), plan_table(plan, way), plan_of(sheet)""",
    "planlines": """plan_text(plan), plan_by(text)""",
    "asks": """needed_asks(sheet, tells), further_asks(sheet, tells, known), free_tells(sheet, known), path_asks(sheet,
        path), round_asks(table, n), ask_order(sheet, tells), ask_turns(sheet, tells)""",
    "askcode": """ask_plan(sheet, tells), asks_made(plan, way), ways_sheet(plan), ask_log(sheet, tells, change, start, h),
        unseen_pair(sheet, tells, ask), is_unseen_pair(sheet, tells, ask, thing)""",
    "kinds": """is_kind(thing), fits(kind, change, sorts), kind_rows(kind, sheet), alike_on(kind, table, other),
        parting_on(kind, table, other), is_parting_on(kind, table, other, thing), power_on(kind, table, other, most),
        order_on(kind, table, most), kind_trees(kind, sort, places), all_kind(parts), degree_kind(parts, degree),
        time_kind(), driven_kind(), turning_kind(), second_kind(), one_cell_order(table, most)""",
    "kept": """kept_so(change, poly, way), array_of(table, part, other), defect(table, trees), keeps(table, degree, way),
        losing_power(table, degree, way), grafted_change(trees, many), losing_change(table, degree, way),
        is_losing(table, degree, way, thing)""",
    "driven": """is_array(thing), squares(array), is_squares(array, thing), below(array), is_below(array, thing),
        square_of(table), is_drive(thing, many), drive_change(drive), told_size(table, drive, start, points),
        never_grows_driven(table), growth(table), is_growth(table, thing)""",
    "damped": """word_weight(table, word), linear_word(table, other), is_alike_linear(table, other), word_change(word, many),
        spin_change(p, q), solve_poly(table), solves_damped(table), quotient(table), ray_poly(table, p, q),
        never_grows(table), growing_paper(table), is_growing_paper(table, thing)""",
    "turned": """turned_table(table), is_symmetric(table), made_symmetric(table), seen_to(one, other), third_of(one, other),
        is_third(one, other, thing), seen_order(table, most)""",
    "papers": """is_statement(thing), stands(statement), paper(statement), is_paper_for(statement, thing),
        is_paper_against(statement, thing), verdicts(statements, things), comes_of(statement, statements)""",
    "desk": """desk(text), is_request(thing), row_text(row), row_by(text)"""}

BOARD = """sheet(), tickets(), table(ticket), given(ticket), add_stage(rows), hang(part, stage, other, x), drop_stage(stage),
    add_tell(weights), weigh(ticket, part, stage, x), drop_tell(ticket), go_behind(table), scale(x), make(word), undo(), stays(ticket),
    parted(ticket), alike(ticket, other), order(ticket, most), keeps(ticket, degree, way), asks(), grows(ticket)"""

ERRORS = {"NoPlace": ["place"], "NothingDone": [], "BadLine": ["line"], "CanNot": [], "TooMuch": [], "Unfit": []}


def listed(text):
    """The pairs (name, parameters) of a list of calls."""
    calls = ast.parse("[" + " ".join(text.split()) + "]").body[0].value.elts
    return [(call.func.id, [argument.id for argument in call.args]) for call in calls]


class Interface(unittest.TestCase):

    def test_functions(self):
        for file, text in INTERFACE.items():
            module = importlib.import_module("everychange." + file)
            tree = ast.parse((ROOT / "everychange" / f"{file}.py").read_text())
            defined = {node.name for node in tree.body if isinstance(node, ast.FunctionDef)}
            for name, parameters in listed(text):
                self.assertIn(name, defined, file)
                found = inspect.signature(getattr(module, name)).parameters
                self.assertEqual(list(found), parameters, name)
                for parameter in found.values():
                    self.assertEqual(parameter.kind, parameter.POSITIONAL_OR_KEYWORD)
                    self.assertIs(parameter.default, parameter.empty)

    def test_board(self):
        from everychange.board import Board
        self.assertEqual((Board.__module__, Board.__bases__), ("everychange.board", (object,)))
        self.assertEqual(list(inspect.signature(Board).parameters), ["many"])
        for name, parameters in listed(BOARD):
            self.assertEqual(list(inspect.signature(vars(Board)[name]).parameters), ["self"] + parameters, name)

    def test_all_headings_are_there(self):
        files = {path.stem for path in (ROOT / "everychange").glob("*.py")}
        self.assertLessEqual(set(INTERFACE) | {"errors", "board"}, files)
        self.assertEqual(len(INTERFACE), 30)

    def test_errors(self):
        module = importlib.import_module("everychange.errors")
        for name, parameters in ERRORS.items():
            error = getattr(module, name)
            self.assertEqual(error.__module__, "everychange.errors")
            self.assertEqual(list(inspect.signature(error).parameters), parameters)

    def test_readme_tells_how_tests_are_run(self):
        text = (ROOT / "README.md").read_text()
        self.assertIn("python3 -m unittest discover -s tests -t .", text)
        self.assertIn(".ci/run", text)

    def test_what_readme_shows_is_so(self):
        text = (ROOT / "README.md").read_text()
        names, seen = {}, 0
        for block in text.split("```python\n")[1:]:
            for line in block.split("```")[0].splitlines():
                call, _, told = line.partition("#")
                if line.startswith(("run_of", "weight", "lots", "desk")):
                    self.assertEqual(eval(call, names), eval(told), line)
                    seen += 1
                else:
                    exec(call, names)
        self.assertEqual(seen, 4)

    def test_readme_names_each_file(self):
        text = (ROOT / "README.md").read_text()
        for path in (ROOT / "everychange").glob("*.py"):
            self.assertIn(f"`{path.name}`" if path.stem != "__init__" else "everychange", text)


if __name__ == "__main__":
    unittest.main()
