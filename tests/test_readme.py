"""The README's examples tell what they say."""

import doctest
import pathlib
import re
import unittest

README = pathlib.Path(__file__).resolve().parent.parent / "README.md"


class Readme(unittest.TestCase):
    def test_examples(self):
        imports, *examples = re.findall(r"```python\n(.*?)```", README.read_text(encoding="ascii"), re.DOTALL)
        names = {}
        exec(imports, names)
        self.assertGreater(len(examples), 5)
        test = doctest.DocTestParser().get_doctest("".join(examples), names, "README.md", None, 0)
        wrong = []
        told = doctest.DocTestRunner(verbose=False).run(test, out=wrong.append)
        self.assertEqual(told.failed, 0, "".join(wrong))
        self.assertGreater(told.attempted, 30)


if __name__ == "__main__":
    unittest.main()
