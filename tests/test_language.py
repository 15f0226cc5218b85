"""Rules for the files of the package that can be seen file by file: names, sizes, characters and imports."""

import ast
import unittest
from pathlib import Path

PACKAGE = Path(__file__).resolve().parent.parent / "pagewright"
FILES = sorted(PACKAGE.rglob("*.py"))
LIBRARY = {"heapq", "math", "itertools", "collections", "__future__"}


class Files(unittest.TestCase):
    def test_the_package_holds_nothing_else(self):
        for path in PACKAGE.rglob("*"):
            if "__pycache__" not in path.parts:
                with self.subTest(path.name):
                    if path.is_dir():
                        self.assertTrue((path / "__init__.py").exists())
                    else:
                        self.assertRegex(path.name, r"^[a-z0-9_]+\.py$")

    def test_sizes_and_characters(self):
        for path in FILES:
            source = path.read_bytes()
            lines = source.split(b"\n")
            with self.subTest(path.name):
                self.assertLess(len(lines), 400)
                self.assertLessEqual(max([len(line) for line in lines]), 120)
                self.assertTrue(all([code == 10 or 32 <= code <= 126 for code in source]))

    def test_sizes_of_functions(self):
        for path in FILES:
            for node in ast.walk(ast.parse(path.read_text())):
                if isinstance(node, ast.FunctionDef):
                    with self.subTest(path.name, function=node.name):
                        self.assertLessEqual(node.end_lineno - node.lineno + 1, 40)

    def test_imports_come_from_the_defining_file(self):
        for path in FILES:
            for node in ast.walk(ast.parse(path.read_text())):
                self.assertTrue(path.name == "__main__.py" or not isinstance(node, ast.Import))
                if isinstance(node, ast.ImportFrom) and node.module not in LIBRARY:
                    with self.subTest(path.name, module=node.module):
                        file = PACKAGE.parent / (node.module.replace(".", "/") + ".py")
                        self.check_defined(file, [name.name for name in node.names])

    def test_imports_make_no_rings(self):
        imported = {}
        for path in FILES:
            name = ".".join(path.relative_to(PACKAGE.parent).with_suffix("").parts)
            nodes = ast.walk(ast.parse(path.read_text()))
            imported[name] = {node.module for node in nodes if isinstance(node, ast.ImportFrom)} - LIBRARY
        while imported:
            free = [name for name, others in imported.items() if not others & set(imported)]
            self.assertTrue(free, sorted(imported))
            for name in free:
                del imported[name]

    def test_names_of_properties_are_those_of_no_method(self):
        properties, methods = set(), set()
        for path in FILES:
            for node in ast.walk(ast.parse(path.read_text())):
                if isinstance(node, ast.ClassDef):
                    for method in [inner for inner in node.body if isinstance(inner, ast.FunctionDef)]:
                        told = [ast.unparse(decorator) for decorator in method.decorator_list]
                        (properties if "property" in told else methods).add(method.name)
        self.assertEqual(properties & methods, set())

    def check_defined(self, file, names):
        defined = set()
        for node in ast.parse(file.read_text()).body:
            if isinstance(node, (ast.FunctionDef, ast.ClassDef)):
                defined.add(node.name)
            elif isinstance(node, ast.Assign):
                defined.update([target.id for target in node.targets])
            elif isinstance(node, ast.AnnAssign):
                defined.add(node.target.id)
        self.assertLessEqual(set(names), defined)


if __name__ == "__main__":
    unittest.main()
