"""The examples of the document, as they stand there, and those of README.md."""

import pathlib
import subprocess
import sys
import unittest

from tests.samples import KID, MAIN, PROGRAM, RUN, SERVER

EXAMPLES = """
>>> from keptends.programchecker import is_program, lets_program
>>> [lets_program(PROGRAM), is_program((('open', 'none'), (SERVER,)))]
[3, False]
>>> lets_program((('open', 'open'), (MAIN, KID)))
raises InvalidPaper(word='name', at=(1, 0))
>>> from keptends.programparts import births_in, names_in, places_with, role_names_born, targets_at
>>> [names_in(PROGRAM), births_in(PROGRAM, 'kid'), role_names_born(PROGRAM), targets_at(PROGRAM, 'main', 2)]
[('main', 'kid', 'server'), (('start', 'server'),), ('kid', 'main', 'server'), (3,)]
>>> [places_with(PROGRAM, 'kid', 'close'), places_with(PROGRAM, 'server', 'end')]
[(1,), ()]
>>> from keptends.programchanges import put_in, renamed, with_births, with_role
>>> put_in(PROGRAM, 'kid', 1, ('close', 'w'))[1][1][1]
(('start', 'server', 1), ('close', 'w', 2), ('close', 'r', 3), ('write', 4), ('end',))
>>> [with_births(PROGRAM, 'start')[1][0][1][0], renamed(PROGRAM, 'kid', 'a')[1][0][1][0]]
[('start', 'kid', 1), ('copy', 'a', 1)]
>>> with_role(PROGRAM, ('spare', (('copy', 'other', 1), ('end',)), ()), at=0)
raises InvalidPaper(word='name', at=(0, 0))
>>> from keptends.programreadings import read_instruction, read_program
>>> from keptends.programtexts import instruction_text, program_text
>>> [instruction_text(('go', (0, 10))), program_text((('open', 'marked'), (SERVER,))), read_instruction('close w 3')]
['go 0,10', 'begin open marked\\nrole server\\nstay', ('close', 'w', 3)]
>>> [read_program(program_text(PROGRAM)) == PROGRAM, read_program('begin open open\\nrole a\\nread 7')]
[True, (('open', 'open'), (('a', (('read', 7),), ()),))]
>>> read_instruction('go 1,1', line=4)
raises InvalidText(line=4, field=1)
>>> read_program('begin open open\\nrole a')
raises InvalidText(line=2, field=0)
>>> from keptends.programclasses import Program, Reborn
>>> one = Program.of(MAIN, KID, SERVER)
>>> [one['server'], one('main'), 'kid' in one, len(one), (one % 'copy')('kid'), one.called('kid', 'a').names_now]
[('server', (('stay',),), ()), (('copy', 'kid'),), True, 3, (('copy', 'server'),), ('main', 'a', 'server')]
>>> [Reborn(PROGRAM[0], PROGRAM[1], 'start')('main'), Program.of(SERVER) <= one, str(Program.of(SERVER, begin=('marked', 'open')))]
[(('start', 'kid'),), True, 'begin marked open\\nrole server\\nstay']
>>> one - 'server'
raises InvalidPaper(word='name', at=(1, 0))
>>> from keptends.trees import came_of, holders_in, next_steps, tree_after, waiting_in
>>> tree_after(PROGRAM, RUN)
(('main', None, 2, 'open', 'none', True), ('kid', 0, 3, 'none', 'none', False), ('server', 1, 0, 'open', 'open', True))
>>> [waiting_in(PROGRAM, RUN), holders_in(PROGRAM, RUN, 'r'), holders_in(PROGRAM, RUN, 'w'), came_of(PROGRAM, RUN, 0)]
[(0,), (0, 2), (2,), (1, 2)]
>>> [next_steps(PROGRAM, RUN[:1]), next_steps(PROGRAM, RUN)]
[((0, 'close', -1), (1, 'start', -1)), ()]
>>> from keptends.runchecker import lets_run
>>> from keptends.runs import after_step, runs_of_length
>>> [lets_run(PROGRAM, RUN), list(runs_of_length(PROGRAM, 2))]
[3, [((0, 'copy', -1), (0, 'close', -1)), ((0, 'copy', -1), (1, 'start', -1))]]
>>> lets_run(PROGRAM, ((0, 'copy', -1), (0, 'read', -1)))
raises InvalidPaper(word='word', at=1)
>>> after_step(PROGRAM, RUN, (0, 'read', -1))
raises InvalidStep(step=(0, 'read', -1), word='read')
>>> from keptends.hangings import first_shown, harms_shown, ways_at_end
>>> [ways_at_end(PROGRAM, RUN), harms_shown(PROGRAM, RUN), first_shown(PROGRAM, RUN, 'stays'), first_shown(PROGRAM, RUN, 'kept')]
[('stays',), ('kept', 'stays'), 3, 2]
>>> [ways_at_end(PROGRAM, RUN[:2]), first_shown(PROGRAM, RUN, 'deaf')]
[(), None]
>>> from keptends.runreadings import read_run, read_step
>>> from keptends.runtexts import run_text, step_text
>>> [step_text((1, 'aside', 0)), run_text(RUN[:2]), read_run('0 go 2\\n0 end'), read_run('-')]
['1 aside 0', '0 copy\\n1 start', ((0, 'go', 2), (0, 'end', -1)), ()]
>>> read_step('0 go')
raises InvalidText(line=0, field=2)
>>> from keptends.pictures import run_picture
>>> run_picture(PROGRAM, RUN)
[' 0 main      -  2 o- read waits', ' 1 kid       0  3 -- ended', ' 2 server    1  0 oo stay']
>>> from keptends.runclasses import Quiet, Run
>>> run = Run(PROGRAM, RUN)
>>> [len(run), run[1], 2 in run, run % 0, str(run - 4), run - 1 <= run, run.first('kept')]
[6, ('kid', 0, 3, 'none', 'none', False), True, ((0, 'copy', -1), (0, 'close', -1)), '0 copy\\n1 start', True, 2]
>>> Quiet(PROGRAM, RUN[:1]) + (1, 'start', -1)
raises NotUsable(word='harm', at=1)
>>> from keptends.fates import all_fates, fates_of, is_fate
>>> NONE, STAYS = ('moment', False, False, False, False, False), ('moment', False, True, False, True, False)
>>> [fates_of(PROGRAM, 'server', ('open', 'open')) == (STAYS,), fates_of(PROGRAM, 'kid', ('open', 'open')) == (NONE, STAYS)]
[True, True]
>>> [[entry[0] for entry in all_fates(PROGRAM)], is_fate(('moment', False, True, True, False, False))]
[['kid', 'main', 'server'], False]
>>> from keptends.fatechecker import lets_fates
>>> from keptends.programchanges import put_in
>>> SAFE = put_in(PROGRAM, 'kid', 0, ('mark', 'w'))
>>> [lets_fates(SAFE, all_fates(SAFE)), lets_fates(PROGRAM, all_fates(PROGRAM), ways=('own', 'joins'))]
[3, 3]
>>> lets_fates(PROGRAM, all_fates(PROGRAM))
raises InvalidPaper(word='way', at=1)
>>> from keptends.hangs import can_hang, fewest_processes, hang_run, ways_of
>>> [ways_of(PROGRAM), can_hang(SAFE), fewest_processes(PROGRAM, 'stays'), hang_run(PROGRAM, 'own')]
[('stays',), False, 3, None]
>>> from keptends.waychecker import lets_few, lets_way
>>> from keptends.waypapers import few_paper, way_paper
>>> [lets_way(PROGRAM, 'stays', ('run', RUN)), lets_way(PROGRAM, 'own', way_paper(PROGRAM, 'own'))]
[True, False]
>>> [lets_few(PROGRAM, 'stays', few_paper(PROGRAM, 'stays')), few_paper(SAFE, 'stays')]
[3, None]
>>> lets_way(PROGRAM, 'own', ('run', RUN))
raises InvalidPaper(word='way', at=-1)
>>> from keptends.fateclasses import Fates, Listed
>>> one, alone = Fates(PROGRAM), (('open', 'open'), (SERVER,))
>>> [one.ways_now, one['server', ('open', 'open')] == (STAYS,), one('kid'), ('kid', ('open', 'none')) in one, len(one)]
[('stays',), True, (('open', 'open'),), False, 3]
>>> wide = Listed(alone, (('server', ('open', 'open'), (('ended',), STAYS)),))
>>> [str(wide), wide.spare_now, Fates(alone) <= wide, (wide & Fates(alone)) == Fates(alone)]
['server open open ended -+-+-', (('server', ('open', 'open'), (('ended',),)),), True, True]
>>> from keptends.lettings import can_be_unread, can_end, can_end_late, can_let_go
>>> BOTH = ('open', 'open')
>>> LATE = (BOTH, (('main', (('copy', 'kid', 1), ('close', 'w', 2), ('wait', 3), ('write', 4), ('end',)), ()), ('kid', (('close', 'w', 1), ('read', 2), ('end',)), ())))
>>> [can_end(LATE, 'kid', BOTH), can_let_go(LATE, 'kid', BOTH), can_end_late(LATE, 'main', BOTH), can_be_unread(LATE, 'kid', BOTH)]
[False, True, True, False]
>>> [can_let_go(PROGRAM, 'main', BOTH), can_let_go(PROGRAM, 'main', ('open', 'marked')), can_be_unread(PROGRAM, 'kid', ('marked', 'open'))]
[False, True, True]
>>> from keptends.harmchecker import lets_harm
>>> from keptends.harms import ends_told, harm_run, harms_of, is_harmless
>>> from keptends.kinds import WAYS
>>> from keptends.programchanges import put_in
>>> SAFE = put_in(PROGRAM, 'kid', 0, ('mark', 'w'))
>>> [harms_of(PROGRAM), harms_of(SAFE), harms_of(LATE), is_harmless(LATE, harms=WAYS)]
[('kept', 'stays'), ('kept',), ('mute',), True]
>>> [ends_told(PROGRAM), ends_told(SAFE), ends_told(LATE), harm_run(SAFE, 'stays')]
[(), (('main', 2),), (('kid', 1),), None]
>>> [lets_harm(PROGRAM, 'kept', RUN), lets_harm(LATE, 'mute', harm_run(LATE, 'mute'))]
[2, 7]
>>> lets_harm(PROGRAM, 'deaf', RUN)
raises InvalidPaper(word='harm', at=-1)
>>> from keptends.shuttings import greatest_shuts, least_shuts, shut
>>> GIVEN = (('kid', 0, 'mark'), ('kid', 1, 'close'), ('main', 0, 'mark'))
>>> [least_shuts(PROGRAM, GIVEN), greatest_shuts(PROGRAM, GIVEN)]
[((('kid', 0, 'mark'),), (('main', 0, 'mark'),)), ((('kid', 1, 'close'),),)]
>>> [shut(PROGRAM, GIVEN[:1]) == SAFE, least_shuts(SAFE, GIVEN), greatest_shuts(SAFE, GIVEN), harms_of(shut(PROGRAM, GIVEN[1:2]))]
[True, ((),), (), ('kept', 'mute', 'stays')]
>>> from keptends.fates import all_fates
>>> from keptends.shutchecker import lets_shuts
>>> from keptends.shutpapers import shut_paper
>>> [lets_shuts(PROGRAM, GIVEN, (GIVEN[:1], all_fates(SAFE), (RUN,))), lets_shuts(PROGRAM, GIVEN, shut_paper(PROGRAM, GIVEN)), shut_paper(PROGRAM, GIVEN[1:2])]
[1, 1, None]
>>> lets_shuts(PROGRAM, GIVEN, (GIVEN[:1], all_fates(SAFE), (RUN[:2],)))
raises InvalidPaper(word='way', at=0)
>>> from keptends.shutclasses import Shuts
>>> one = Shuts(PROGRAM, GIVEN[1:2])
>>> [one.ways_now, one.spares(ways=('own',)), (one + GIVEN[0]).spares(), GIVEN[0] in one, str(one + GIVEN[0]), str(one - GIVEN[1])]
[('stays',), True, True, False, 'mark kid 0, close kid 1', '-']
>>> [[str(some) for some in Shuts(PROGRAM, GIVEN).least_within()], (one | Shuts(PROGRAM, GIVEN[:1])) == one + GIVEN[0], one <= Shuts(PROGRAM)]
[['mark kid 0', 'mark main 0'], True, False]
>>> from keptends.births import births_table, births_without
>>> births_table(PROGRAM)[:3]
[(('marked', 'marked'), 'as it is', ()), (('marked', 'marked'), 'copy', ('kept', 'stays')), (('marked', 'marked'), 'start', ('mute',))]
>>> [births_without(PROGRAM), births_without(PROGRAM, harms=('stays', 'kept'))]
[((('marked', 'marked'), 'as it is'),), ((('marked', 'marked'), 'as it is'), (('marked', 'marked'), 'start'))]
>>> from keptends.likeness import have_same_harms, have_same_reads, have_same_ways, parting_harm
>>> [have_same_harms(PROGRAM, SAFE), have_same_ways(SAFE, LATE), have_same_reads(PROGRAM, SAFE), parting_harm(SAFE, LATE)]
[False, True, False, 'mute']
>>> from keptends.houses import House
>>> house = House(PROGRAM)
>>> [house.do_all(*[('step', step) for step in RUN[:2]]), house.mark('m'), house.do_step(RUN[2]), house.ways_now, house.shown_now]
[2, 2, 3, ('stays',), ((2, 'kept'), (3, 'stays'))]
>>> [house[1], house.holders('w'), house.undo(), house.set_careful('on'), [house.barred(('step', step)) for step in RUN[2:4]]]
[('kid', 0, 1, 'open', 'open', True), (1, 2), ('step', (0, 'close', -1)), 2, ['harm', None]]
>>> one = House((('open', 'open'), (('a', (('go', (1, 2)), ('close', 'w', 2), ('read', 2)), ()),)))
>>> [one.ways_left(), one.do_step((0, 'go', 1)), one.ways_left()]
[('own',), 1, ()]
>>> from keptends.housereadings import read_story
>>> from keptends.housetexts import event_line, story_lines
>>> [event_line(('step', (1, 'aside', 0))), story_lines((('house', (('open', 'marked'), (SERVER,)), 'off'), ('mark', 'a')))]
['step 1 aside 0', ['house off 3', 'begin open marked', 'role server', 'stay', 'mark a']]
>>> read_story(['house on 3', 'begin open open', 'role a'])
raises InvalidText(line=3, field=0)
>>> from keptends.desks import Desk
>>> desk = Desk(PROGRAM)
>>> [desk.say(row) for row in ('step 0 copy', 'bars step 0 copy', 'step 1 start', 'shown', 'undo', 'left', 'holders w')]
['1', 'word', '2', '2@kept', 'step 1 start', 'stays', '0 1']
"""


class Examples(unittest.TestCase):
    def test_examples(self):
        names = {"MAIN": MAIN, "KID": KID, "SERVER": SERVER, "PROGRAM": PROGRAM, "RUN": RUN}
        rows = EXAMPLES.strip().split("\n")
        for k, row in enumerate(rows):
            if row.startswith(">>> "):
                wanted = rows[k + 1] if k + 1 < len(rows) else ">>> "
                if wanted.startswith(">>> "):
                    exec(row[4:], names)
                else:
                    self.assertEqual(self.shown(row[4:], names), wanted)

    def test_readme(self):
        # In a process of its own, since it gives a meaning to the name _ everywhere.
        folder = pathlib.Path(__file__).resolve().parent.parent
        found = subprocess.run([sys.executable, "-m", "doctest", "README.md"], cwd=folder, capture_output=True, text=True)
        self.assertEqual((found.returncode, found.stdout, found.stderr), (0, "", ""))
        self.assertGreater((folder / "README.md").read_text().count(">>>"), 20)

    @staticmethod
    def shown(source, names):
        """What an example shows: a value, or an error with its fields."""
        try:
            return repr(eval(source, names))
        except ValueError as error:
            fields = ", ".join(f"{name}={value!r}" for name, value in vars(error).items())
            return f"raises {type(error).__name__}({fields})"


if __name__ == "__main__":
    unittest.main()
