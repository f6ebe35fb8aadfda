"""The examples of the document, as they stand there."""

import unittest

from tests.samples import KID, MAIN, PROGRAM, RUN, SERVER

EXAMPLES = """
>>> from keptends.programchecker import is_program, lets_program
>>> [lets_program(PROGRAM), is_program((('open', 'none'), (SERVER,)))]
[3, False]
>>> lets_program((('open', 'open'), (MAIN, KID)))
raises InvalidPaper(word='name', at=(1, 0))
>>> from keptends.programparts import births_in, names_in, places_with, role_names_born, targets_at
>>> [names_in(PROGRAM), births_in(PROGRAM, 'kid'), role_names_born(PROGRAM), targets_at(PROGRAM, 'main', 2)]
[('main', 'kid', 'server'), (('start', 'server'),), ('kid', 'main', 'server'), (3,)]
>>> [places_with(PROGRAM, 'kid', 'close'), places_with(PROGRAM, 'server', 'end')]
[(1,), ()]
>>> from keptends.programchanges import put_in, renamed, with_births, with_role
>>> put_in(PROGRAM, 'kid', 1, ('close', 'w'))[1][1][1]
(('start', 'server', 1), ('close', 'w', 2), ('close', 'r', 3), ('write', 4), ('end',))
>>> [with_births(PROGRAM, 'start')[1][0][1][0], renamed(PROGRAM, 'kid', 'a')[1][0][1][0]]
[('start', 'kid', 1), ('copy', 'a', 1)]
>>> with_role(PROGRAM, ('spare', (('copy', 'other', 1), ('end',)), ()), at=0)
raises InvalidPaper(word='name', at=(0, 0))
>>> from keptends.programreadings import read_instruction, read_program
>>> from keptends.programtexts import instruction_text, program_text
>>> [instruction_text(('go', (0, 10))), program_text((('open', 'marked'), (SERVER,))), read_instruction('close w 3')]
['go 0,10', 'begin open marked\\nrole server\\nstay', ('close', 'w', 3)]
>>> [read_program(program_text(PROGRAM)) == PROGRAM, read_program('begin open open\\nrole a\\nread 7')]
[True, (('open', 'open'), (('a', (('read', 7),), ()),))]
>>> read_instruction('go 1,1', line=4)
raises InvalidText(line=4, field=1)
>>> read_program('begin open open\\nrole a')
raises InvalidText(line=2, field=0)
>>> from keptends.programclasses import Program, Reborn
>>> one = Program.of(MAIN, KID, SERVER)
>>> [one['server'], one('main'), 'kid' in one, len(one), (one % 'copy')('kid'), one.called('kid', 'a').names_now]
[('server', (('stay',),), ()), (('copy', 'kid'),), True, 3, (('copy', 'server'),), ('main', 'a', 'server')]
>>> [Reborn(PROGRAM[0], PROGRAM[1], 'start')('main'), Program.of(SERVER) <= one, str(Program.of(SERVER, begin=('marked', 'open')))]
[(('start', 'kid'),), True, 'begin marked open\\nrole server\\nstay']
>>> one - 'server'
raises InvalidPaper(word='name', at=(1, 0))
>>> from keptends.trees import came_of, holders_in, next_steps, tree_after, waiting_in
>>> tree_after(PROGRAM, RUN)
(('main', None, 2, 'open', 'none', True), ('kid', 0, 3, 'none', 'none', False), ('server', 1, 0, 'open', 'open', True))
>>> [waiting_in(PROGRAM, RUN), holders_in(PROGRAM, RUN, 'r'), holders_in(PROGRAM, RUN, 'w'), came_of(PROGRAM, RUN, 0)]
[(0,), (0, 2), (2,), (1, 2)]
>>> [next_steps(PROGRAM, RUN[:1]), next_steps(PROGRAM, RUN)]
[((0, 'close', -1), (1, 'start', -1)), ()]
>>> from keptends.runchecker import lets_run
>>> from keptends.runs import after_step, runs_of_length
>>> [lets_run(PROGRAM, RUN), list(runs_of_length(PROGRAM, 2))]
[3, [((0, 'copy', -1), (0, 'close', -1)), ((0, 'copy', -1), (1, 'start', -1))]]
>>> lets_run(PROGRAM, ((0, 'copy', -1), (0, 'read', -1)))
raises InvalidPaper(word='word', at=1)
>>> after_step(PROGRAM, RUN, (0, 'read', -1))
raises InvalidStep(step=(0, 'read', -1), word='read')
>>> from keptends.hangings import first_shown, harms_shown, ways_at_end
>>> [ways_at_end(PROGRAM, RUN), harms_shown(PROGRAM, RUN), first_shown(PROGRAM, RUN, 'stays'), first_shown(PROGRAM, RUN, 'kept')]
[('stays',), ('kept', 'stays'), 3, 2]
>>> [ways_at_end(PROGRAM, RUN[:2]), first_shown(PROGRAM, RUN, 'deaf')]
[(), None]
"""


class Examples(unittest.TestCase):
    def test_examples(self):
        names = {"MAIN": MAIN, "KID": KID, "SERVER": SERVER, "PROGRAM": PROGRAM, "RUN": RUN}
        rows = EXAMPLES.strip().split("\n")
        for k, row in enumerate(rows):
            if row.startswith(">>> "):
                wanted = rows[k + 1] if k + 1 < len(rows) else ">>> "
                if wanted.startswith(">>> "):
                    exec(row[4:], names)
                else:
                    self.assertEqual(self.shown(row[4:], names), wanted)

    @staticmethod
    def shown(source, names):
        """What an example shows: a value, or an error with its fields."""
        try:
            return repr(eval(source, names))
        except ValueError as error:
            fields = ", ".join(f"{name}={value!r}" for name, value in vars(error).items())
            return f"raises {type(error).__name__}({fields})"


if __name__ == "__main__":
    unittest.main()
