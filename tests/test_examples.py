"""The examples of the document."""

import doctest
import unittest

EXAMPLES = '''
>>> from answeredsettings.ends import End
>>> from answeredsettings.machine import Machine
>>> from answeredsettings.pacts import Pact
>>> from answeredsettings.settings import Setting
>>> owner = End({"a": Setting("size", 3, 1, [(1, 2), (2, 1)], "answered")}, {}, {"back": []}, 1)
>>> pact = Pact(owner, End({}, {"a": "heard"}, {}, 1))
>>> machine = Machine(pact)
>>> verdicts = [machine(("left", ("set", "a", 2))), machine(("right", ("hear",))), machine(("right", ("frame", "a", 2)))]
>>> [verdicts, machine(("left", ("hear",)))]
[[None, None, None], ('a', 2, 1, 'refused')]

>>> from answeredsettings.ends import End
>>> from answeredsettings.pacts import Pact
>>> from answeredsettings.settings import Setting
>>> from answeredsettings.verdicts import is_sound, offences
>>> owner = End({"a": Setting("size", 3, 1, [(1, 2), (2, 1)], "answered")}, {}, {"back": []}, 1)
>>> pact = Pact(owner, End({}, {"a": "heard"}, {}, 1))
>>> [is_sound(pact), offences(pact), is_sound(pact.with_end("right", End({}, {"a": "answered"}, {}, 1)))]
[False, [('a', 2, 1, 'refused')], True]

>>> from answeredsettings.claims import against, holds
>>> from answeredsettings.ends import End
>>> from answeredsettings.pacts import Pact
>>> from answeredsettings.settings import Setting
>>> owner = End({"a": Setting("size", 3, 1, [(1, 2), (2, 1)], "answered")}, {}, {"back": []}, 1)
>>> pact = Pact(owner, End({}, {"a": "heard"}, {}, 1))
>>> [holds(pact, ("kept", "a")), len(against(pact, ("kept", "a"))), holds(pact, ("open", "left", 1))]
[False, 4, True]

>>> from answeredsettings.ends import End
>>> from answeredsettings.forms import met_by_rows, rows_of
>>> from answeredsettings.pacts import Pact
>>> from answeredsettings.settings import Setting
>>> owner = End({"a": Setting("size", 3, 1, [(1, 2), (2, 1)], "answered")}, {}, {"back": []}, 1)
>>> pact = Pact(owner, End({}, {"a": "heard"}, {}, 1))
>>> [rows_of(pact, "a"), met_by_rows(pact, "a")]
[[(1,), (2,), (1, 2), (2, 1)], [(1, 1), (1, 2), (2, 1), (2, 2)]]

>>> from answeredsettings.ends import End
>>> from answeredsettings.marks import least_marks
>>> from answeredsettings.pacts import Pact
>>> from answeredsettings.settings import Setting
>>> from answeredsettings.waits import greatest_wait
>>> owner = End({"a": Setting("size", 3, 1, [(1, 2), (2, 1)], "answered")}, {}, {"back": []}, 1)
>>> pact = Pact(owner, End({}, {"a": "heard"}, {}, 1))
>>> [least_marks(pact, "a"), greatest_wait(pact, "left"), greatest_wait(pact, "right")]
[2, 3, 0]

>>> from answeredsettings.console import Console
>>> from answeredsettings.ends import End
>>> from answeredsettings.pacts import Pact
>>> from answeredsettings.settings import Setting
>>> owner = End({"a": Setting("size", 3, 1, [(1, 2), (2, 1)], "answered")}, {}, {"back": []}, 1)
>>> pact = Pact(owner, End({}, {"a": "heard"}, {}, 1))
>>> [Console(pact).say("offences"), Console(pact).say("try rule right frame 0,0 1,0"), Console(pact).say("moves left")]
['(a 2 1 refused)', 'none', 'left set a 2']
'''


class ExamplesTest(unittest.TestCase):
    def test_examples(self):
        test = doctest.DocTestParser().get_doctest(EXAMPLES, {}, "examples", None, 0)
        told = doctest.DocTestRunner().run(test)
        self.assertEqual((told.failed, told.attempted), (0, 45))


if __name__ == "__main__":
    unittest.main()
