"""Where the names of the interface stand, and the form of the package's files."""

import ast
import builtins
import os
import subprocess
import sys
import unittest

ROOT = os.path.dirname(os.path.dirname(os.path.abspath(__file__)))
PACKAGE = os.path.join(ROOT, "hardbits")

INTERFACE = {
    "hardbits.errors": """HardError InvalidFraction InvalidRow InvalidTruth InvalidFamily InvalidMeasure InvalidMix
        InvalidDraw InvalidWord InvalidDesign InvalidAdvice InvalidMaps InvalidClaim InvalidOperation InvalidNumber
        UnknownName TooMany Refused ParseError""",
    "hardbits.base.fractions": """is_fraction(value) fraction(top,bottom) added(one,other) less(one,other)
        times(one,other) divided(one,other) power(one,k) compared(one,other) floor_of(one) ceiling_of(one)
        is_row(value) row_of(numbers) entries(row) lowest(row) row_sum(row) row_dot(one,other) row_added(one,other)
        scaled(row,number) least_sum(row,s) greatest_sum(row,s) least_weights(row,s) is_least_weights(row,s,value)
        level_shows(row,s,z) level_answer(row,s,v) is_level_answer(row,s,v,value)""",
    "hardbits.points.truths": """is_truth(N,value) is_family(N,value) truth_of(bits) table_bits(f)
        agreement(one,other) apart_number(one,other) opposite(f) closed_family(family) does_close(family)
        best_of(f,family) letter_family(n,r) linear_family(n) both_family(n) half_of(f,letter,bit) hanging(f)
        letters_answer(f,r) is_letters_answer(f,r,value)""",
    "hardbits.game.games": """row_pay(table,x) column_pay(table,y) worth(table) worth_answer(table)
        is_worth_answer(table,value) bound_answer(table,v) is_bound_answer(table,v,value) small_answer(table)
        is_small_answer(table,value)""",
    "hardbits.core.cores": """share_of(w) test_sums(f,family,w) margins(f,family,y) core_answer(f,family,d,e)
        is_core_answer(f,family,d,e,value) least_edge(f,family,d) edge_answer(f,family,d)
        is_edge_answer(f,family,d,value) share_answer(f,family,e) is_share_answer(f,family,e,value)""",
    "hardbits.core.votes": """vote_row(family,mix) wrong_points(truth,row) margin(truth,row)
        vote_answer(truth,family,d) is_vote_answer(truth,family,d,value) fewest(truth,family,d,e)
        voices(truth,family,d,e,r)""",
    "hardbits.core.rounds": """most_rounds(d,c) heights(truth,family,taken,e) weights_at(truth,family,taken,d,e,c)
        falls(truth,family,taken,d,e,c) next_of(truth,family,taken,d,e,c) run(truth,family,d,e,c)
        is_run(truth,family,d,e,c,value)""",
    "hardbits.linear.linear": """sign_row(truth) linear_truth(string) linear_sum(row,string) linear_sums(row)
        linear_list(row,e) begin_weight(row,begin) begins(row,e) nearest_linear(row)""",
    "hardbits.words.draws": """words(m) word_number(m,word) draw_of(m,counts) even_draw(m) excess(m,draw,test)
        hybrid(m,draw,number) steps(m,draw,test) advantage(m,draw,i,bits) best_next(m,draw) best_bits(m,draw,i)
        is_best_bits(m,draw,i,value) made_bits(m,test,i,last,r) made_answer(m,draw,test)
        is_made_answer(m,draw,test,value) test_of(m,i,bits) distance(one,other) coupling_answer(one,other,s)
        is_coupling_answer(one,other,s,value) bias(m,draw,lot) biases(m,draw)""",
    "hardbits.words.designs": """is_design(l,value) common_number(l,design,i,j) common_rows(l,design)
        elder_bits(l,design,i) line_lots(q,n,a,m) full_answer(l,n,a,lots) is_full_answer(l,n,a,lots,value)
        most_lots(l,n,a) has_room(l,n,a,m) greatest_lots(l,n,a) is_greatest_lots(l,n,a,value)""",
    "hardbits.words.bits": """bits_of(truth,l,design,seed) drawn_bits(truth,l,design)
        bits_excess(truth,l,design,test) elder_tables(truth,l,design,i,others) is_predictor(l,design,value)
        predicted(truth,l,design,test,predictor) predictor_sum(truth,l,design,test,predictor)
        bits_answer(truth,l,design,test,e) is_bits_answer(truth,l,design,test,e,value) predictors_number(n,l,m)
        rows_of(truth,l,design,test)""",
    "hardbits.words.strings": """string_excess(l,design,test,string) is_advice(l,design,value)
        advised_row(l,design,test,advice) advised_list(l,design,test,e,advice) led_back(l,design,test,e,advice)
        string_answer(l,design,test,e,string) is_string_answer(l,design,test,e,string,value)
        not_within(l,design,test,e) advices_number(l,design,e)""",
    "hardbits.words.sources": """excess_row(l,design,test) tried(l,design,test,e) source_excess(l,design,test,source)
        worst_source(l,design,test,top) is_worst_source(l,design,test,top,value)
        source_answer(l,design,test,top,bound) is_source_answer(l,design,test,top,bound,value)
        source_bound(l,design,e,top)""",
    "hardbits.copies.copies": """copies(truths) copies_sum(truths,test) lines(N,k,test) copies_bound(d,e,k)
        splits(truths,test,measures) copies_answer(truths,test,d,e) is_copies_answer(truths,test,d,e,value)""",
    "hardbits.copies.chain": """chain_bound(m,k,d,e) chain_excess(truth,k,l,design,test)
        chain_lines(truth,k,l,design,test,predictor) chain_answer(truth,k,l,design,test,d,e)
        is_chain_answer(truth,k,l,design,test,d,e,value) chain_vote(truth,k,l,design,test,predictor,mix)""",
    "hardbits.longer.longer": """led_on(table,seed,k) map_excess(table,test) long_excess(table,k,test)
        step_test(table,k,test,first) long_answer(table,k,test,e) is_long_answer(table,k,test,e,value)
        bit_map(turn,truth) guess_row(test) string_map(turn) back_list(turn,test,e)""",
    "hardbits.near.maps": """chance_of_meeting(M,maps,one,other) mean_meeting(M,maps) meets_answer(M,maps)
        is_meets_answer(M,maps,value) are_even(M,maps) spread(M,values,p) leftover(M,maps,p)
        leftover_parts(M,maps,p) mean_distance(M,maps,p) least_meeting(points,M) linear_maps(n,m)
        affine_maps(n,m) field_maps(q)""",
    "hardbits.near.dense": """dense_answer(draw,family,d,e) is_dense_answer(draw,family,d,e,value)
        nearness_answer(draw,family,d) is_nearness_answer(draw,family,d,value) signed_row(family,mix)
        difference(draw,family,d,mix) is_part(draw,other,d) level_of(draw,other,family,d,mix)""",
    "hardbits.near.likeness": """farness(row,other,family) is_like(row,family,e,value) likeness_log(row,family,e)
        is_likeness_log(row,family,e,value) likeness_row(family,e,log) road_answer(f,family,d,e)
        is_road_answer(f,family,d,e,value)""",
    "hardbits.few.draws": """bare_rows(goods,draws) least_chance(goods,mix) draws_by_mean(goods,mix)
        is_draws(goods,mix,value) most_by_mean(goods,mix,t) is_most(goods,t,value) least_draws(goods)
        uncovered(n,lot,shifts) shifts_answer(n,lot,k) is_cover(n,lot,k,value) least_lots(weights,lots)
        tie_weight(weights,lots,place) single_number(m,W,lots)""",
    "hardbits.longer.trees": """tree_word(n,doubling,t,seed,x) is_asker(n,t,value) questions(n,t,asker)
        real_chance(n,doubling,t,asker) even_chance(n,t,asker) asker_edge(n,doubling,t,asker)
        pair_edge(n,doubling,test) made_test(n,doubling,t,asker,i,j,others) step_mean(n,doubling,t,asker,i,j)
        broken_by(n,doubling,t,asker) is_broken_by(n,doubling,t,asker,value)""",
    "hardbits.judge.judge": """is_claim(value) opposite(claim) takes(claim,paper)""",
    "hardbits.judge.answers": """answered(claim)""",
    "hardbits.use.texts": """fraction_text(number) read_fraction(text) row_text(row) read_row(text) truth_text(f)
        read_truth(text) design_text(l,design) read_design(l,text) test_text(m,test) read_test(m,text)
        asker_text(n,t,asker) read_asker(n,t,text)""",
    "hardbits.use.bench": """Bench""",
}
METHODS_OF = {("hardbits.use.bench", "Bench"): """__init__(self,l) tell(self,line) __len__(self) __str__(self)"""}
CONSTANTS = {
    "hardbits.points.truths": {"MOST_POINTS": 32, "MOST_TESTS": 256},
    "hardbits.game.games": {"MOST_ROWS": 24, "MOST_COLUMNS": 32},
    "hardbits.words.designs": {"MOST_PLACES": 12, "MOST_TUPLES": 6},
    "hardbits.near.likeness": {"MOST_STEPS": 256},
}
LIBRARY = {"heapq": {"heappush", "heappop", "heapify", "heapreplace", "heappushpop"},
           "math": {"gcd", "lcm", "isqrt", "comb", "perm", "factorial"},
           "itertools": {"product", "combinations", "permutations", "chain", "accumulate", "pairwise", "islice",
                         "zip_longest"},
           "collections": {"defaultdict", "deque"}}
BUILTINS = set("""len range enumerate zip min max sum abs sorted reversed int str bool bytes list tuple dict set
    frozenset isinstance ord repr any all divmod pow getattr hasattr setattr iter next map super Exception
    ValueError TypeError KeyError IndexError LookupError ZeroDivisionError ArithmeticError OverflowError RuntimeError
    NotImplementedError AttributeError StopIteration NotImplemented""".split())
METHODS = set("""append clear copy count endswith extend find get index insert isalnum isalpha isdigit islower isspace
    isupper items join keys ljust lower lstrip partition pop remove replace reverse rfind rjust rpartition rsplit rstrip
    setdefault split splitlines startswith strip update upper values zfill bit_length sort add discard __init__
    removeprefix removesuffix""".split())
# The double-underscore methods that a class may have.
DOUBLE = ("__init__", "__eq__", "__repr__", "__str__", "__len__")
# What the checker may rest on.
CHECKER = ("hardbits.errors", "hardbits.base.", "hardbits.judge.")

SPOTS = ("range", "zip", "enumerate", "reversed", "map")
TAKERS = ("list", "tuple", "dict", "sorted", "sum", "any", "all", "enumerate", "zip", "reversed", "min", "max")
PICKERS = ("combinations", "permutations", "product")
BARRED = set("""register mro elements open input law version_info with_traceback add_note attrgetter breakpoint builtins
    compile copyright credits delattr dir eval exec exit gc globals help id importlib license locals methodcaller os quit
    type vars sys typing enum Enum Generic Protocol ABC namedtuple dataclass overload contextmanager""".split())
# These words do not occur in strings either.
BARRED_IN_STRINGS = set("""type typing typing_extensions enum Enum IntEnum StrEnum Flag IntFlag Generic Protocol ABC
    ABCMeta namedtuple NamedTuple TypedDict TYPE_CHECKING abstractmethod dataclass overload contextmanager""".split())


def is_call_of(node, names):
    return isinstance(node, ast.Call) and isinstance(node.func, ast.Name) and node.func.id in names


def may_follow_a_star(value):
    """[L7] A name, an attribute off a name, a literal, or a list, tuple or dict of these."""
    if isinstance(value, (ast.List, ast.Tuple)):
        return all(may_follow_a_star(part) for part in value.elts)
    if isinstance(value, ast.Dict):
        return all(may_follow_a_star(part) for part in value.keys + value.values)
    if isinstance(value, ast.Attribute):
        return isinstance(value.value, ast.Name)
    return isinstance(value, (ast.Name, ast.Constant))


def wrong_stars(tree):
    """The rows of the calls in which a star stands before something else than a star may."""
    return [node.lineno for node in ast.walk(tree) if isinstance(node, ast.Call)
            and not all(may_follow_a_star(value.value) for value in node.args if isinstance(value, ast.Starred))]


def path_of(module):
    return os.path.join(ROOT, *module.split(".")) + ".py"


def files():
    found = []
    for folder, folders, names in os.walk(PACKAGE):
        folders[:] = [name for name in folders if name != "__pycache__"]
        found += [os.path.join(folder, name) for name in names]
    return sorted(found)


def source(path):
    with open(path, encoding="utf-8") as opened:
        return opened.read()


def module_of(path):
    return os.path.relpath(path, ROOT)[:-3].replace(os.sep, ".")


class Interface(unittest.TestCase):

    def test_names_stand_in_their_files(self):
        for module, text in INTERFACE.items():
            defined = {node.name: node for node in ast.parse(source(path_of(module))).body
                       if isinstance(node, (ast.FunctionDef, ast.ClassDef))}
            for entry in text.split():
                name, _, parameters = entry.rstrip(")").partition("(")
                self.assertIn(name, defined, module)
                if parameters:
                    self.check_parameters(defined[name], parameters)

    def check_parameters(self, function, parameters):
        arguments = function.args
        self.assertEqual([argument.arg for argument in arguments.args], parameters.split(","), function.name)
        self.assertFalse(arguments.defaults or arguments.kwonlyargs or arguments.vararg or arguments.kwarg)

    def test_methods_stand_in_their_classes(self):
        for (module, owner), text in METHODS_OF.items():
            found = [node for node in ast.parse(source(path_of(module))).body if getattr(node, "name", None) == owner]
            methods = {node.name: node for node in found[0].body if isinstance(node, ast.FunctionDef)}
            for entry in text.split():
                name, _, parameters = entry.rstrip(")").partition("(")
                self.assertIn(name, methods, (module, owner))
                self.check_parameters(methods[name], parameters)

    def test_the_checker_rests_on_little(self):
        """[21] hardbits.judge.judge uses the errors, the base and what stands beside it, and so do these."""
        wanted, seen = ["hardbits.judge.judge"], set()
        while wanted:
            module = wanted.pop()
            seen.add(module)
            for node in ast.walk(ast.parse(source(path_of(module)))):
                if isinstance(node, ast.ImportFrom) and node.module.startswith("hardbits"):
                    self.assertTrue(node.module.startswith(CHECKER), (module, node.module))
                    wanted += [node.module] if node.module not in seen else []
        self.assertNotIn("hardbits.judge.answers", seen)
        done = subprocess.run([sys.executable, "-B", "-c", "import hardbits.judge.judge, sys; print(*sorted(sys.modules))"],
                              cwd=ROOT, capture_output=True, text=True)
        loaded = {name for name in done.stdout.split() if name.startswith("hardbits.")}
        self.assertLessEqual(seen, loaded)
        self.assertFalse([name for name in loaded if not (name + ".").startswith(CHECKER)])

    def test_constants(self):
        for module, wanted in CONSTANTS.items():
            names = vars(__import__(module, fromlist=["x"]))
            for name, value in wanted.items():
                self.assertEqual((name, names[name]), (name, value))
                self.assertIn(f"\n{name} = {value}\n", source(path_of(module)))

    def test_each_module_can_be_imported_first(self):
        for module in INTERFACE:
            done = subprocess.run([sys.executable, "-W", "error", "-B", "-c", f"import {module}"], cwd=ROOT,
                                  capture_output=True, text=True)
            self.assertEqual((done.returncode, done.stdout, done.stderr), (0, "", ""), module)


class Form(unittest.TestCase):

    def trees(self):
        for path in files():
            yield path, ast.parse(source(path))

    def test_the_folder_holds_python_files_only(self):
        for path in files():
            self.assertTrue(path.endswith(".py"), path)
            self.assertTrue(os.path.exists(os.path.join(os.path.dirname(path), "__init__.py")), path)

    def test_sizes_and_signs(self):
        for path in files():
            text = source(path)
            self.assertTrue(text.endswith("\n"), path)
            self.assertLessEqual(len(text.splitlines()), 399, path)
            for line in text.split("\n"):
                self.assertLessEqual(len(line), 120, (path, line))
            self.assertTrue(all(sign == "\n" or " " <= sign <= "~" for sign in text), path)

    def test_functions_are_small(self):
        for path, tree in self.trees():
            for node in ast.walk(tree):
                if isinstance(node, ast.FunctionDef):
                    self.assertLessEqual(node.end_lineno - node.lineno + 1, 40, (path, node.name))
                    self.assertEqual(node.decorator_list, [], (path, node.name))

    def test_modules_hold_plain_statements(self):
        for path, tree in self.trees():
            for node in tree.body:
                plain = isinstance(node, (ast.ImportFrom, ast.FunctionDef, ast.ClassDef, ast.Assign))
                told = isinstance(node, ast.Expr) and isinstance(node.value, ast.Constant)
                self.assertTrue(plain or told, (path, node.lineno))

    def test_imports(self):
        homes = {module_of(path): {node.name for node in tree.body if hasattr(node, "name")}
                 | {node.targets[0].id for node in tree.body if isinstance(node, ast.Assign)}
                 for path, tree in self.trees()}
        for path, tree in self.trees():
            for node in ast.walk(tree):
                self.assertNotIsInstance(node, ast.Import, path)
                if isinstance(node, ast.ImportFrom):
                    names = {alias.name for alias in node.names}
                    self.assertFalse([alias for alias in node.names if alias.asname], path)
                    self.assertLessEqual(names, LIBRARY.get(node.module) or homes.get(node.module, set()), path)

    def test_no_import_in_a_round(self):
        needs = {module_of(path): [node.module for node in tree.body if isinstance(node, ast.ImportFrom)]
                 for path, tree in self.trees()}
        done = set()
        while len(done) < len(needs):
            ready = {module for module, wanted in needs.items() if module not in done
                     and all(other in done or other not in needs for other in wanted)}
            self.assertTrue(ready, set(needs) - done)
            done |= ready

    def test_statements_and_values(self):
        barred = (ast.Await, ast.AsyncFunctionDef, ast.AsyncFor, ast.AsyncWith, ast.Div)
        for path, tree in self.trees():
            for node in ast.walk(tree):
                self.assertNotIsInstance(node, barred, (path, getattr(node, "lineno", 0)))
                if isinstance(node, ast.Constant):
                    self.assertNotIsInstance(node.value, (float, complex), path)
                    self.assertFalse(isinstance(node.value, str) and "%" in node.value, path)

    def test_names(self):
        for path, tree in self.trees():
            known = {node.name for node in tree.body if hasattr(node, "name")}
            known |= {alias.name for node in tree.body if isinstance(node, ast.ImportFrom) for alias in node.names}
            known |= {node.targets[0].id for node in tree.body if isinstance(node, ast.Assign)}
            for function in ast.walk(tree):
                if isinstance(function, ast.FunctionDef):
                    self.check_names(path, function, known)

    def check_names(self, path, function, known):
        names = [node for node in ast.walk(function) if isinstance(node, ast.Name)]
        local = {argument.arg for argument in function.args.args}
        local |= {node.id for node in names if isinstance(node.ctx, ast.Store)}
        self.assertFalse(local & known, (path, function.name))
        self.assertFalse(local & set(dir(builtins)), (path, function.name))
        for node in names:
            if isinstance(node.ctx, ast.Load) and node.id not in local | known:
                self.assertIn(node.id, BUILTINS, (path, function.name))

    def test_methods_of_builtin_values(self):
        own = {node.name for _, tree in self.trees() for owner in ast.walk(tree) if isinstance(owner, ast.ClassDef)
               for node in owner.body if isinstance(node, ast.FunctionDef)}
        for path, tree in self.trees():
            for node in ast.walk(tree):
                if isinstance(node, ast.Call) and isinstance(node.func, ast.Attribute):
                    self.assertIn(node.func.attr, own | METHODS, (path, node.lineno))

    def test_iterated_on_the_spot(self):
        """[L23] What a range, a zip and the like give is not kept, passed on, or put elsewhere."""
        for path, tree in self.trees():
            let = set()
            for node in ast.walk(tree):
                if isinstance(node, (ast.For, ast.comprehension)):
                    let.add(node.iter)
                if isinstance(node, ast.Call) and isinstance(node.func, ast.Name) and node.func.id in TAKERS and node.args:
                    let.add(node.args[0])
                if isinstance(node, ast.Call) and isinstance(node.func, ast.Name) and node.func.id in PICKERS:
                    let |= {argument for argument in node.args if is_call_of(argument, ("range",))}
            for node in ast.walk(tree):
                if is_call_of(node, SPOTS):
                    self.assertIn(node, let, (path, node.lineno))

    def test_generators_and_stars(self):
        """[L7] Generator expressions stand directly in some builtins; stars in calls of max, min and zip."""
        for path, tree in self.trees():
            calls = [node for node in ast.walk(tree) if isinstance(node, ast.Call)]
            let = {node.args[0] for node in calls if is_call_of(node, TAKERS + ("min", "max")) and node.args}
            for node in ast.walk(tree):
                if isinstance(node, ast.GeneratorExp):
                    self.assertIn(node, let, (path, node.lineno))
                if isinstance(node, ast.Call) and any(isinstance(value, ast.Starred) for value in node.args):
                    self.assertTrue(is_call_of(node, ("max", "min", "zip")), (path, node.lineno))
                if isinstance(node, ast.Call):
                    self.assertTrue(all(keyword.arg for keyword in node.keywords), (path, node.lineno))
                self.assertNotIsInstance(node, (ast.Yield, ast.YieldFrom, ast.Global, ast.Set, ast.SetComp, ast.Lambda), path)

    def test_stars_in_calls(self):
        """[L7] Behind a star in a call stand names, attributes off a name, literals, and lists, tuples and dicts of these."""
        for path, tree in self.trees():
            self.assertEqual(wrong_stars(tree), [], path)

    def test_what_may_not_follow_a_star_is_found(self):
        for text in ("zip(*table[1])", "zip(*rows[1:])", "zip(*table[0][1])", "zip(*table.rows[1])", "zip(*one.two.rows)",
                     "zip(rows, *table[1])", "max(*rows[0], 1)", "min(*[rows[0], 1])", "zip(*(lines, table[1]))",
                     "zip(*{0: rows[1]})", "zip(*one + other)", "zip(*made(rows))", "zip(*[row for row in rows])",
                     "list(zip(*table[1]))", "made(one, list(zip(*table[1])), x)"):
            self.assertEqual(wrong_stars(ast.parse("first = 0\nsecond = " + text)), [2], text)
        for text in ("zip(*rows)", "zip(*table.rows)", "max(*rows, 1)", "zip(*(rows, lines))", "min(*[1, 2], *rows)",
                     "zip(rows[0], table[1])", "zip(*(1, (rows, table.rows)))", "[*table[1], 1]", "zip(*{0: rows})"):
            self.assertEqual(wrong_stars(ast.parse("first = 0\nsecond = " + text)), [], text)

    def test_exponents_and_sides(self):
        """[L27] An exponent is a literal, or there is none; [L20] `is` stands beside None, True and False."""
        for path, tree in self.trees():
            for node in ast.walk(tree):
                if isinstance(node, ast.BinOp) and isinstance(node.op, ast.Pow):
                    self.assertIsInstance(node.right, ast.Constant, (path, node.lineno))
                if isinstance(node, ast.Compare) and isinstance(node.ops[0], (ast.Is, ast.IsNot)):
                    self.assertIsInstance(node.comparators[0], ast.Constant, (path, node.lineno))

    def test_words_that_do_not_occur(self):
        """[L12, L17] Names and strings have none of these words."""
        for path, tree in self.trees():
            told = {node.value.value for node in ast.walk(tree) if isinstance(node, ast.Expr)
                    and isinstance(node.value, ast.Constant)}
            for node in ast.walk(tree):
                if isinstance(node, ast.Constant) and isinstance(node.value, str) and node.value not in told:
                    self.assertFalse(set(node.value.replace(".", " ").split()) & BARRED_IN_STRINGS, (path, node.value))
                names = [getattr(node, field, None) for field in ("id", "attr", "arg", "name")]
                for name in names:
                    if isinstance(name, str):
                        self.assertNotIn(name, BARRED, path)
                        self.assertTrue(not name.startswith("__") or name in DOUBLE, (path, name))

    def test_double_underscore_methods(self):
        """[L5, L28] A length is that of something held; a text is a string that is made on the spot."""
        for path, tree in self.trees():
            for owner in ast.walk(tree):
                if isinstance(owner, ast.ClassDef):
                    for method in owner.body:
                        if isinstance(method, ast.FunctionDef) and method.name in ("__len__", "__str__", "__repr__"):
                            self.assertEqual(len(method.body), 1, path)
                            value = method.body[0].value
                            self.assertTrue(is_call_of(value, ("len",)) if method.name == "__len__" else isinstance(value, ast.JoinedStr), path)

    def test_tables_of_functions_are_only_read(self):
        """[L15] A dict or list at module level is read by an index or by `in`, and nothing else happens to it."""
        for path, tree in self.trees():
            tables = {node.targets[0].id for node in tree.body if isinstance(node, ast.Assign) and isinstance(node.value, (ast.Dict, ast.List))}
            let = {id(node.value) for node in ast.walk(tree) if isinstance(node, ast.Subscript) and isinstance(node.ctx, ast.Load)}
            let |= {id(side) for node in ast.walk(tree) if isinstance(node, ast.Compare) for side in node.comparators}
            for node in ast.walk(tree):
                if isinstance(node, ast.Name) and isinstance(node.ctx, ast.Load) and node.id in tables:
                    self.assertIn(id(node), let, (path, node.lineno))

    def test_modules_bind_each_name_once(self):
        """[L15]"""
        for path, tree in self.trees():
            names = [node.name for node in tree.body if hasattr(node, "name")]
            names += [alias.name for node in tree.body if isinstance(node, ast.ImportFrom) for alias in node.names]
            names += [node.targets[0].id for node in tree.body if isinstance(node, ast.Assign)]
            self.assertEqual(len(names), len(set(names)), path)
            self.assertFalse(set(names) & set(dir(builtins)), path)

    def test_products_of_the_library(self):
        """[L2] What combinations and the like give is gone through at once."""
        for path, tree in self.trees():
            let = {node.iter for node in ast.walk(tree) if isinstance(node, (ast.For, ast.comprehension))}
            let |= {node.args[0] for node in ast.walk(tree) if is_call_of(node, TAKERS) and node.args}
            for node in ast.walk(tree):
                if is_call_of(node, ("combinations", "permutations", "product")):
                    self.assertIn(node, let, (path, node.lineno))


if __name__ == "__main__":
    unittest.main()
