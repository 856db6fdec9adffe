import ast
import doctest
import importlib
import re
import unittest
from pathlib import Path

PACKAGE = Path(__file__).resolve().parent.parent / "wordsapart"
FILES = sorted(PACKAGE.glob("*.py"))
INTERFACE = {
    "errors": {"ApartError": None, "NoText": None, "NoLine": None, "NoSize": None, "NoWord": None, "Near": None},
    "words": {"all_words": 2, "distance": 2, "weight": 1, "apart": 1, "keeps": 2, "counts": 2, "plus": 3, "taken": 3},
    "spans": {"span": 3, "checked": 3, "base": 3},
    "makings": {"cut": 1, "shorter": 2, "longer": 2, "beside": 2, "pairs": 2, "sums": 3},
    "picks": {"in_order": 3, "taken_on": 4, "heard": 2, "reach": 3},
    "waves": {"ways": 2, "wave": 4, "swells": 3},
    "weights": {"weights_right": 4, "weights_tell": 3, "least_weights": 3, "equality": 5},
    "papers": {"paper_tells": 4},
    "tables": {"table": 1, "met": 1},
    "texts": {"show_list": 1, "show_paper": 1, "read_list": 3, "read_paper": 1},
    "desk": {"Desk": None},
}
METHODS = {"desk": {"Desk": {"__init__": 1, "say": 2}}}
BARRED = """type typing typing_extensions enum Enum IntEnum StrEnum Flag IntFlag Generic Protocol ABC ABCMeta namedtuple
    NamedTuple TypedDict TYPE_CHECKING abstractmethod""".split()


class Interface(unittest.TestCase):
    def test_each_name_is_defined_in_the_file_under_which_it_is_listed(self):
        for name, listed in INTERFACE.items():
            tree = ast.parse((PACKAGE / f"{name}.py").read_text())
            defined = [node.name for node in tree.body if isinstance(node, (ast.FunctionDef, ast.ClassDef))]
            module = importlib.import_module(f"wordsapart.{name}")
            for each in listed:
                self.assertEqual(defined.count(each), 1, each)
                self.assertTrue(callable(getattr(module, each)), each)

    def test_each_function_takes_as_many_arguments_as_listed(self):
        for name, listed in INTERFACE.items():
            module = importlib.import_module(f"wordsapart.{name}")
            for each, many in listed.items():
                if many is not None:
                    self.assertEqual(getattr(module, each).__code__.co_argcount, many, each)

    def test_each_method_is_defined_in_its_class_itself(self):
        for name, classes in METHODS.items():
            module = importlib.import_module(f"wordsapart.{name}")
            for each, methods in classes.items():
                for method, many in methods.items():
                    self.assertEqual(vars(getattr(module, each))[method].__code__.co_argcount, many, method)


class Readme(unittest.TestCase):
    def test_its_example_holds(self):
        told = doctest.testfile(str(PACKAGE.parent / "README.md"), module_relative=False)
        self.assertGreater(told.attempted, 0)
        self.assertEqual(told.failed, 0)


class Files(unittest.TestCase):
    def test_the_package_holds_plain_files_alone(self):
        self.assertIn(PACKAGE / "__init__.py", FILES)
        for path in PACKAGE.iterdir():
            self.assertTrue(path.name == "__pycache__" or re.fullmatch(r"[a-z0-9_]+\.py", path.name), path)

    def test_sizes_and_characters(self):
        for path in FILES:
            text = path.read_bytes().decode("ascii")
            lines = text.split("\n")
            self.assertLessEqual(len(lines), 400, path)
            self.assertLessEqual(max(len(line) for line in lines), 120, path)
            self.assertTrue(all(sign == "\n" or " " <= sign <= "~" for sign in text), path)
            for node in ast.walk(ast.parse(text)):
                if isinstance(node, ast.FunctionDef):
                    self.assertLessEqual(node.end_lineno - node.lineno + 1, 40, node.name)

    def test_no_barred_word(self):
        for path in FILES:
            for word in BARRED:
                self.assertIsNone(re.search(rf"\b{word}\b", path.read_text()), (path, word))

    def test_whole_numbers_alone(self):
        for path in FILES:
            for node in ast.walk(ast.parse(path.read_text())):
                self.assertFalse(isinstance(node, ast.Constant) and isinstance(node.value, float), path)
                self.assertNotIsInstance(node, ast.Div, path)
                if isinstance(node, ast.BinOp) and isinstance(node.op, ast.Pow):
                    self.assertIsInstance(node.right, ast.Constant, path)

    def test_no_local_name_is_that_of_an_import(self):
        for path in FILES:
            tree = ast.parse(path.read_text())
            imported = {name.name for node in tree.body if isinstance(node, ast.ImportFrom) for name in node.names}
            for node in ast.walk(tree):
                if isinstance(node, ast.arg):
                    self.assertNotIn(node.arg, imported, path)
                if isinstance(node, ast.Name) and isinstance(node.ctx, ast.Store):
                    self.assertNotIn(node.id, imported, path)

    def test_imports_are_from_the_package_alone(self):
        for path in FILES:
            for node in ast.walk(ast.parse(path.read_text())):
                if path.name != "__main__.py":
                    self.assertNotIsInstance(node, ast.Import, path)
                if isinstance(node, ast.ImportFrom):
                    self.assertEqual(node.level, 0, path)
                    self.assertTrue(node.module == "__future__" or node.module.startswith("wordsapart."), path)


if __name__ == "__main__":
    unittest.main()
