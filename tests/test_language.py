"""What can be counted of the rules of the language: files, sizes, characters, imports, docstrings."""

import ast
import builtins
import pathlib
import unittest

FOLDER = pathlib.Path(__file__).resolve().parent.parent / "unmixed"
FILES = sorted(FOLDER.glob("*.py"))
LIBRARY = {"heapq", "math", "itertools", "collections"}


class Files(unittest.TestCase):

    def test_the_folder_holds_only_files_of_the_program(self):
        others = [path.name for path in FOLDER.iterdir() if path not in FILES and path.name != "__pycache__"]
        self.assertEqual(others, [])
        self.assertIn(FOLDER / "__init__.py", FILES)

    def test_sizes_and_characters(self):
        for path in FILES:
            text = path.read_bytes().decode("ascii")
            lines = text.split("\n")
            self.assertLessEqual(len(lines) - 1, 399, path.name)
            self.assertLessEqual(max(len(line) for line in lines), 120, path.name)
            self.assertTrue(all(sign == "\n" or " " <= sign <= "~" for sign in text), path.name)

    def test_functions_have_at_most_forty_lines(self):
        for path in FILES:
            for node in ast.walk(ast.parse(path.read_text())):
                if isinstance(node, ast.FunctionDef):
                    self.assertLessEqual(node.end_lineno - node.lineno + 1, 40, f"{path.name} {node.name}")

    def test_imports_name_the_file_that_defines_the_name(self):
        defined = {}
        for path in FILES:
            body = ast.parse(path.read_text()).body
            names = [node.name for node in body if isinstance(node, (ast.FunctionDef, ast.ClassDef))]
            names += [target.id for node in body if isinstance(node, ast.Assign) for target in node.targets]
            defined[f"unmixed.{path.stem}"] = names
        for path in FILES:
            for node in ast.walk(ast.parse(path.read_text())):
                self.assertNotIsInstance(node, ast.Import, path.name)
                if isinstance(node, ast.ImportFrom) and node.module not in LIBRARY:
                    for alias in node.names:
                        self.assertIn(alias.name, defined[node.module], path.name)

    def test_no_variable_has_the_name_of_a_builtin_or_of_what_its_file_imports(self):
        for path in FILES:
            tree = ast.parse(path.read_text())
            taken = set(dir(builtins)) | {node.name for node in tree.body if isinstance(node, ast.ClassDef)}
            for node in tree.body:
                if isinstance(node, ast.ImportFrom):
                    taken |= {alias.name for alias in node.names}
            names = {node.arg for node in ast.walk(tree) if isinstance(node, ast.arg)}
            for node in ast.walk(tree):
                if isinstance(node, ast.Name) and isinstance(node.ctx, ast.Store):
                    names.add(node.id)
            self.assertEqual(names & taken, set(), path.name)

    def test_no_name_is_a_method_and_an_attribute(self):
        methods, attributes = set(), set()
        for path in FILES:
            for node in ast.walk(ast.parse(path.read_text())):
                if isinstance(node, ast.ClassDef):
                    methods |= {member.name for member in node.body if isinstance(member, ast.FunctionDef)}
                if isinstance(node, ast.Attribute) and isinstance(node.ctx, ast.Store):
                    attributes.add(node.attr)
        self.assertEqual(methods & attributes, set())


if __name__ == "__main__":
    unittest.main()
