"""The form of the code: what can be seen at once of ../shared/LANGUAGE.md, and where the interface stands."""

import ast
import os
import unittest

PACKAGE = os.path.join(os.path.dirname(os.path.dirname(os.path.abspath(__file__))), 'shutbyrings')
METHODS = set('''append clear copy count endswith extend find get index insert items join keys pop remove replace
reverse rfind setdefault sort split startswith strip update upper lower values bit_length'''.split())
BUILTINS = set('''len range enumerate zip min max sum abs sorted reversed int str bool list tuple dict set isinstance ord
repr any all divmod super TypeError'''.split())
INTERFACE = {
    'terms.py': ['Signs', 'is_term', 'parts', 'variables', 'size', 'put'],
    'orders.py': ['Order', 'steps', 'shows_steps'],
    'books.py': ['Book', 'unserved', 'verdict', 'shows_served', 'shows_shut'],
    'compared.py': ['compared', 'shows_compared', 'fates', 'sure', 'shows_fate', 'implied', 'shows_implied'],
    'least.py': ['least_drop', 'turns', 'forcing', 'shows_drop', 'shows_turns', 'shows_forcing'],
    'numbers.py': ['all_orders', 'how_many', 'at_number', 'number_of'],
    'falls.py': ['matched', 'next_steps', 'longest_fall', 'shows_fall', 'shows_longest'],
    'told.py': ['book_seen', 'parting'],
    'leads.py': ['Lead'],
    'texts.py': ['show_term', 'show_book', 'show_facts', 'show_order', 'read_term', 'read_book', 'read_facts', 'read_order'],
    'facts.py': ['is_fact', 'opposite', 'follows', 'clash', 'shows_clash', 'order_of', 'fits', 'needs'],
}
LISTED = {'Signs': ['names', 'ways', 'arity', '__contains__', '__len__', '__eq__'],
          'Book': ['without', 'turned', '__add__', '__eq__', '__getitem__', '__len__', 'rules', 'barred', '__iter__'],
          'Lead': ['put', 'bar', 'withdraw', 'claim', 'give_up', 'mark', 'back_to', 'sure_now', 'verdict', 'shows_shut', 'copy',
                   'numbers', 'facts', 'book', 'changed', '__contains__', '__getitem__', '__len__', '__iter__'],
          'Order': ['names', 'lots', 'facts', '__call__', '__eq__']}


def sources():
    for name in sorted(os.listdir(PACKAGE)):
        if name.endswith('.py'):
            with open(os.path.join(PACKAGE, name), encoding='utf-8') as file:
                yield name, file.read()


class Form(unittest.TestCase):
    def test_files(self):
        names = [name for name in os.listdir(PACKAGE) if name != '__pycache__']
        self.assertTrue(all(name.endswith('.py') and name == name.lower() for name in names))
        self.assertIn('__init__.py', names)

    def test_sizes_and_characters(self):
        for name, text in sources():
            lines = text.split('\n')
            self.assertLessEqual(len(lines), 399, name)
            self.assertTrue(all(len(line) <= 120 for line in lines), name)
            self.assertTrue(all(letter == '\n' or ' ' <= letter <= '~' for letter in text), name)

    def test_functions_are_small(self):
        for name, text in sources():
            for node in ast.walk(ast.parse(text)):
                if isinstance(node, ast.FunctionDef):
                    self.assertLessEqual(node.end_lineno - node.lineno + 1, 40, (name, node.name))

    def test_imports_name_the_file_that_defines(self):
        defined = {name[:-3]: set(top_names(ast.parse(text))) for name, text in sources()}
        for name, text in sources():
            for node in ast.walk(ast.parse(text)):
                self.assertNotIsInstance(node, ast.Import, name)
                if isinstance(node, ast.ImportFrom):
                    self.assertTrue(node.module.startswith('shutbyrings.'), name)
                    for alias in node.names:
                        self.assertIn(alias.name, defined[node.module.split('.')[1]], name)

    def test_statements_that_are_not_used(self):
        for name, text in sources():
            for node in ast.walk(ast.parse(text)):
                self.assertNotIsInstance(node, (ast.Global, ast.Try, ast.With, ast.AsyncFunctionDef, ast.Div,
                                                ast.GeneratorExp, ast.YieldFrom, ast.Set, ast.AugAssign), name)

    def test_generators_are_iterated_by_others_alone(self):
        named = {}
        for name, text in sources():
            for node in ast.walk(ast.parse(text)):
                if isinstance(node, ast.FunctionDef) and any(isinstance(one, ast.Yield) for one in ast.walk(node)):
                    named[node.name] = name
        self.assertEqual(named, {'all_orders': 'numbers.py'})
        for name, text in sources():
            used = [node.id for node in ast.walk(ast.parse(text)) if isinstance(node, ast.Name)]
            self.assertNotIn('all_orders', used, name)
            self.assertEqual(text.count('def all_orders'), 1 if name == 'numbers.py' else 0)

    def test_properties_are_no_attributes(self):
        trees = [ast.parse(text) for _, text in sources()]
        classes = [node for tree in trees for node in tree.body if isinstance(node, ast.ClassDef)]
        methods = [one for node in classes for one in node.body if isinstance(one, ast.FunctionDef)]
        properties = {one.name for one in methods if one.decorator_list}
        assigned = {node.attr for tree in trees for node in ast.walk(tree)
                    if isinstance(node, ast.Attribute) and isinstance(node.ctx, ast.Store)}
        self.assertFalse(properties & assigned)
        self.assertFalse({one.name for one in methods} & assigned)
        self.assertFalse({one.name for one in methods if not one.decorator_list} & properties)

    def test_no_module_imports_itself_through_others(self):
        imports = {name: {node.module.split('.')[1] + '.py' for node in ast.walk(ast.parse(text))
                          if isinstance(node, ast.ImportFrom)} for name, text in sources()}
        reached = {name: set(told) for name, told in imports.items()}
        for _ in imports:
            for told in reached.values():
                told.update(*[imports[other] for other in told])
        self.assertFalse([name for name in reached if name in reached[name]])

    def test_builtins_and_methods(self):
        own = {node.name for _, text in sources() for node in ast.walk(ast.parse(text)) if isinstance(node, ast.FunctionDef)}
        for name, text in sources():
            tree = ast.parse(text)
            known = set(top_names(tree)) | {a.asname or a.name for node in ast.walk(tree) if isinstance(node, ast.ImportFrom)
                                            for a in node.names}
            for node in ast.walk(tree):
                if isinstance(node, ast.Call) and isinstance(node.func, ast.Name):
                    self.assertTrue(node.func.id in known | BUILTINS | {'children', 'made', 'order'}, (name, node.func.id))
                elif isinstance(node, ast.Call):
                    self.assertIn(node.func.attr, METHODS | own, name)


class Interface(unittest.TestCase):
    def test_defined_in_their_files(self):
        trees = {name: ast.parse(text) for name, text in sources()}
        for name, names in INTERFACE.items():
            for wanted in names:
                self.assertIn(wanted, top_names(trees[name]), name)
            for node in trees[name].body:
                if isinstance(node, ast.ClassDef) and node.name in LISTED:
                    self.assertLessEqual(set(LISTED[node.name]), {one.name for one in node.body if isinstance(one, ast.FunctionDef)})


def top_names(tree):
    found = [node.name for node in tree.body if isinstance(node, (ast.FunctionDef, ast.ClassDef))]
    return found + [node.targets[0].id for node in tree.body if isinstance(node, ast.Assign)]


if __name__ == '__main__':
    unittest.main()
