"""The names, arguments and places of the interface, as far as it has landed."""

import importlib
import inspect
import unittest

FUNCTIONS = {
    "farbits.forms": {
        "is_form": ["value"],
        "size_of": ["x"],
        "height_of": ["x"],
        "turns_of": ["x"],
        "form_of": ["turns"],
        "order_of": ["x", "y"],
        "bit_of": ["x", "p"],
        "successor": ["x"],
        "negate": ["x"],
        "add": ["x", "y"],
        "subtract": ["x", "y"],
        "bit_not": ["x"],
        "bit_and": ["x", "y"],
        "bit_or": ["x", "y"],
        "bit_xor": ["x", "y"],
    },
    "farbits.products": {
        "shift_left": ["x", "s"],
        "shift_right": ["x", "s"],
        "divide": ["x", "y"],
        "multiply": ["x", "y"],
        "power": ["x", "n"],
    },
}


class Interface(unittest.TestCase):
    def test_functions_stand_where_the_interface_lists_them(self):
        for module_name, functions in FUNCTIONS.items():
            module = importlib.import_module(module_name)
            for name, arguments in functions.items():
                with self.subTest(function=name):
                    function = getattr(module, name)
                    self.assertTrue(inspect.isfunction(function))
                    self.assertEqual(function.__module__, module_name)
                    parameters = inspect.signature(function).parameters
                    self.assertEqual(list(parameters), arguments)
                    for parameter in parameters.values():
                        self.assertEqual(parameter.kind, parameter.POSITIONAL_OR_KEYWORD)
                        self.assertIs(parameter.default, parameter.empty)

    def test_arguments_may_be_passed_by_name(self):
        from farbits import forms, products
        self.assertIs(forms.is_form(value=5), True)
        self.assertEqual(forms.size_of(x=(64, 65)), 3)
        self.assertEqual(forms.form_of(turns=[1, 3]), 6)
        self.assertEqual(forms.order_of(y=1, x=2), 1)
        self.assertEqual(forms.bit_of(p=1, x=2), 1)
        self.assertEqual(forms.subtract(y=1, x=5), 4)
        self.assertEqual(products.shift_left(s=3, x=5), 40)
        self.assertEqual(products.shift_right(s=3, x=45), 5)
        self.assertEqual(products.divide(y=8, x=45), 5)
        self.assertEqual(products.multiply(y=8, x=5), 40)
        self.assertEqual(products.power(n=3, x=5), 125)


if __name__ == "__main__":
    unittest.main()
