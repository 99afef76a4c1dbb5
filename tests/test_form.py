"""The form of the package's files: what can be told of ../shared/LANGUAGE.md by a look at the files alone."""

import ast
import pathlib
import unittest

FOLDER = pathlib.Path(__file__).resolve().parent.parent / "spentframes"
FILES = sorted(FOLDER.glob("*.py"))
LIBRARY = {"math": {"gcd", "lcm", "isqrt", "comb", "perm", "factorial"}, "heapq": {"heappush", "heappop"}}
BUILTINS = set(
    "len range enumerate zip min max sum abs sorted reversed int str bool list tuple dict set isinstance ord repr any all"
    " divmod property ValueError KeyError iter next map".split())
METHODS = set(
    "append clear copy count endswith extend find get index insert isalnum isalpha isdigit islower isspace isupper items"
    " join keys ljust lower lstrip partition pop remove replace reverse rfind rjust rpartition rsplit rstrip setdefault"
    " split splitlines startswith strip update upper values zfill bit_length add discard".split())
NO_NODES = (ast.GeneratorExp, ast.Global, ast.AsyncFunctionDef, ast.Div, ast.Import, ast.TryStar, ast.Await)


def trees():
    return [(path, ast.parse(path.read_text())) for path in FILES]


def nodes(tree, *kinds):
    return [node for node in ast.walk(tree) if isinstance(node, kinds)]


class Form(unittest.TestCase):
    def test_the_folder_holds_plain_files_only(self):
        names = [path.name for path in FOLDER.iterdir() if path.name != "__pycache__"]
        self.assertEqual(sorted(names), [path.name for path in FILES])
        self.assertIn("__init__.py", names)

    def test_sizes_and_signs(self):
        for path in FILES:
            text = path.read_text()
            lines = text.split("\n")
            self.assertLessEqual(text.count("\n"), 399, path.name)
            self.assertLessEqual(max(len(line) for line in lines), 120, path.name)
            self.assertTrue(all(sign == "\n" or " " <= sign <= "~" for sign in text), path.name)

    def test_functions_have_at_most_40_lines(self):
        for path, tree in trees():
            for node in nodes(tree, ast.FunctionDef):
                self.assertLessEqual(node.end_lineno - node.lineno + 1, 40, (path.name, node.name))

    def test_each_file_function_and_class_says_what_it_is_for(self):
        for path, tree in trees():
            for node in nodes(tree, ast.FunctionDef, ast.ClassDef, ast.Module):
                if isinstance(node, ast.FunctionDef) and node.name.startswith("__"):
                    continue
                self.assertTrue(ast.get_docstring(node), (path.name, getattr(node, "name", "")))

    def test_imports_name_the_very_file(self):
        for path, tree in trees():
            for node in nodes(tree, ast.ImportFrom):
                words = [alias.name for alias in node.names]
                self.assertTrue(all(alias.asname is None for alias in node.names))
                if node.module in LIBRARY:
                    self.assertLessEqual(set(words), LIBRARY[node.module], path.name)
                    continue
                self.assertTrue(node.module.startswith("spentframes."), path.name)
                source = ast.parse((FOLDER / (node.module.split(".")[1] + ".py")).read_text())
                made = {part.name for part in source.body if isinstance(part, (ast.FunctionDef, ast.ClassDef))}
                made |= {part.targets[0].id for part in source.body if isinstance(part, ast.Assign)}
                self.assertLessEqual(set(words), made, path.name)

    def test_what_is_imported_is_used(self):
        for path, tree in trees():
            used = {node.id for node in nodes(tree, ast.Name)}
            for node in nodes(tree, ast.ImportFrom):
                self.assertLessEqual({alias.name for alias in node.names}, used, path.name)

    def test_no_words_that_are_not_let(self):
        for path, tree in trees():
            for node in nodes(tree, *NO_NODES):
                self.fail(f"{path.name} line {node.lineno}: {type(node).__name__}")

    def test_only_builtins_and_methods_that_are_let(self):
        own = set()
        for path, tree in trees():
            own |= {node.name for node in nodes(tree, ast.FunctionDef, ast.ClassDef)}
            for words in LIBRARY.values():
                own |= words
        for path, tree in trees():
            passed = {node.arg for node in nodes(tree, ast.arg)}
            for node in nodes(tree, ast.Call):
                if isinstance(node.func, ast.Name):
                    self.assertIn(node.func.id, own | BUILTINS | passed, (path.name, node.lineno))
                else:
                    self.assertIn(node.func.attr, own | METHODS, (path.name, node.lineno))

    def test_no_name_is_that_of_a_builtin(self):
        builtin = set(dir(__import__("builtins"))) - {"_"}
        for path, tree in trees():
            stored = {node.id for node in nodes(tree, ast.Name) if isinstance(node.ctx, ast.Store)}
            stored |= {node.arg for node in nodes(tree, ast.arg)}
            stored |= {node.name for node in nodes(tree, ast.FunctionDef, ast.ClassDef)}
            self.assertEqual(stored & builtin, set(), path.name)
            imported = {alias.name for node in nodes(tree, ast.ImportFrom) for alias in node.names}
            inner = {node.id for node in nodes(tree, ast.Name) if isinstance(node.ctx, ast.Store)}
            self.assertEqual((inner | {node.arg for node in nodes(tree, ast.arg)}) & imported, set(), path.name)

    def test_attributes_methods_and_properties_have_names_of_their_own(self):
        attributes, methods, properties = set(), set(), set()
        for path, tree in trees():
            for kind in nodes(tree, ast.ClassDef):
                made = [part for part in kind.body if isinstance(part, ast.FunctionDef)]
                properties |= {part.name for part in made if part.decorator_list}
                methods |= {part.name for part in made if not part.decorator_list and not part.name.startswith("__")}
                attributes |= {node.attr for node in nodes(kind, ast.Attribute) if isinstance(node.ctx, ast.Store)}
        self.assertEqual([attributes & methods, attributes & properties, methods & properties], [set()] * 3)
        for thing in ("", b"", 0, [], {}, set(), ()):
            self.assertEqual((attributes | methods | properties) & set(dir(thing)), set())

    def test_strings_hold_no_escapes_that_are_barred(self):
        for path, tree in trees():
            for node in nodes(tree, ast.Constant):
                if isinstance(node.value, str):
                    self.assertNotIn("%", node.value, path.name)
                self.assertNotIsInstance(node.value, (float, bytes), path.name)
