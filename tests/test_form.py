"""The form of the package's files, as far as it is plain to see: sizes, signs, imports and words."""

import ast
import builtins
import re
import unittest
from pathlib import Path

FOLDER = Path(__file__).resolve().parent.parent / "truealarms"
FILES = sorted(FOLDER.glob("*.py"))
SHUT_OUT = (
    "type", "typing", "enum", "Enum", "Flag", "Generic", "Protocol", "ABC", "dataclass", "overload", "open",
    "input", "law", "register", "elements", "mro", "chr", "print", "eval", "exec", "global", "async")


class Form(unittest.TestCase):
    def test_the_folder_holds_sources_alone(self):
        names = [path.name for path in FOLDER.iterdir() if path.name != "__pycache__"]
        self.assertEqual(sorted(names), [path.name for path in FILES])
        self.assertIn("__init__.py", names)

    def test_signs_and_sizes(self):
        for path in FILES:
            text = path.read_text(encoding="utf-8")
            self.assertEqual(re.findall("[^ -~\n]", text), [], path.name)
            lines = text.splitlines()
            self.assertLessEqual(len(lines), 399, path.name)
            self.assertLessEqual(max(map(len, lines)), 120, path.name)

    def test_functions_are_short(self):
        for path in FILES:
            for node in ast.walk(ast.parse(path.read_text())):
                if isinstance(node, ast.FunctionDef):
                    self.assertLessEqual(node.end_lineno - node.lineno + 1, 40, f"{path.name}: {node.name}")

    def test_imports_name_the_defining_files(self):
        trees = {path.stem: ast.parse(path.read_text()) for path in FILES}
        for stem, tree in trees.items():
            for node in ast.walk(tree):
                self.assertNotIsInstance(node, (ast.Import, ast.Global, ast.AsyncFunctionDef, ast.GeneratorExp))
                if isinstance(node, ast.ImportFrom):
                    package, _, source = node.module.partition(".")
                    self.assertEqual((package, node.level), ("truealarms", 0), stem)
                    defined = set()
                    for inner in trees[source].body:
                        if isinstance(inner, (ast.FunctionDef, ast.ClassDef)):
                            defined.add(inner.name)
                        if isinstance(inner, ast.Assign):
                            defined.update([target.id for target in inner.targets])
                    for alias in node.names:
                        self.assertIn(alias.name, defined, stem)
                        self.assertIsNone(alias.asname)

    def test_imports_are_used_and_lead_to_no_cycle(self):
        sources = {}
        for path in FILES:
            tree = ast.parse(path.read_text())
            imports = [node for node in tree.body if isinstance(node, ast.ImportFrom)]
            sources[path.stem] = {node.module.partition(".")[2] for node in imports}
            used = {node.id for node in ast.walk(tree) if isinstance(node, ast.Name)}
            for alias in [alias for node in imports for alias in node.names]:
                self.assertIn(alias.name, used, path.name)
        while sources:
            free = [stem for stem in sources if not sources[stem] & set(sources)]
            self.assertNotEqual(free, [], sources)
            sources = {stem: sources[stem] for stem in sources if stem not in free}

    def test_no_name_is_a_method_and_an_attribute(self):
        methods, attributes = set(), set()
        for path in FILES:
            for node in ast.walk(ast.parse(path.read_text())):
                if isinstance(node, ast.ClassDef):
                    methods.update([inner.name for inner in node.body if isinstance(inner, ast.FunctionDef)])
                if isinstance(node, ast.Attribute) and isinstance(node.ctx, ast.Store):
                    attributes.add(node.attr)
        self.assertEqual(methods & attributes, set())

    def test_words_that_are_not_used(self):
        for path in FILES:
            for node in ast.walk(ast.parse(path.read_text())):
                for word in (getattr(node, "id", None), getattr(node, "arg", None), getattr(node, "attr", None)):
                    self.assertNotIn(word, SHUT_OUT, path.name)

    def test_no_name_of_a_file_is_bound_again(self):
        for path in FILES:
            tree = ast.parse(path.read_text())
            bound = set(dir(builtins))
            for node in tree.body:
                if isinstance(node, (ast.FunctionDef, ast.ClassDef)):
                    bound.add(node.name)
                if isinstance(node, ast.Assign):
                    bound.update([target.id for target in node.targets])
                if isinstance(node, ast.ImportFrom):
                    bound.update([alias.name for alias in node.names])
            for node in ast.walk(tree):
                if isinstance(node, ast.FunctionDef):
                    names = [inner.id for inner in ast.walk(node)
                             if isinstance(inner, ast.Name) and isinstance(inner.ctx, ast.Store)]
                    names += [argument.arg for argument in node.args.args + node.args.kwonlyargs]
                    self.assertEqual(bound.intersection(names), set(), f"{path.name}: {node.name}")

    def test_no_floats_and_no_division(self):
        for path in FILES:
            for node in ast.walk(ast.parse(path.read_text())):
                self.assertNotIsInstance(node, ast.Div)
                self.assertNotIsInstance(getattr(node, "value", None), float)


if __name__ == "__main__":
    unittest.main()
