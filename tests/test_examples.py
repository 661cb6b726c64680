"""The examples of the document, each as it stands."""

import importlib
import os
import unittest

from support import KEEPS, THREE

# in the sequence of the stages; the examples of one may use the names of those ahead of it
MODULES = ("errors", "base.values", "store.deeds", "store.states", "disk.blocks", "disk.journal", "disk.halves",
           "house.facts", "net.letters", "house.terms", "house.memory", "house.asking", "house.laying", "house.serving",
           "house.epochs", "house.houses", "world.clients", "world.worlds", "judge.pictures", "judge.sound",
           "judge.orders", "world.calm", "judge.guards", "text.texts")
# the errors have no examples, those of the memory stand with asking, and those of pictures with sound worlds
WITHOUT_EXAMPLES = ("errors", "house.memory", "judge.pictures")
FOLDER = os.path.join(os.path.dirname(__file__), "examples")


def examples_of(text):
    """The pairs of a line of code and of the text that is wished behind it."""
    found = []
    for line in text.splitlines():
        if line.startswith(">>> "):
            found.append((line[4:], []))
        else:
            found[-1][1].append(line)
    return [(code, "\n".join(wished)) for code, wished in found]


def outcome(code, names):
    """The text of what an expression returns, "" for an assignment, or the error that is raised."""
    try:
        return repr(eval(code, names))
    except SyntaxError:
        exec(code, names)
        return ""
    except Exception as error:
        kind = type(error)
        kept = f"({getattr(error, KEEPS[kind])!r})" if kind in KEEPS else ""
        return f"raises {kind.__name__}{kept}"


class ExamplesTest(unittest.TestCase):
    def test_examples(self):
        names = {"THREE": THREE}
        for module in MODULES:
            names.update(vars(importlib.import_module("halvesmeet." + module)))
            path = os.path.join(FOLDER, module.split(".")[-1] + ".txt")
            if module in WITHOUT_EXAMPLES:
                continue
            with open(path, encoding="ascii") as file:
                examples = examples_of(file.read())
            self.assertGreater(len(examples), 3)
            for code, wished in examples:
                self.assertEqual(outcome(code, names), wished, code)


if __name__ == "__main__":
    unittest.main()
