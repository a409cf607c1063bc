import unittest

from plainly import Numbered, loop_end, program_end
from overlapturns.loops import Loop
from overlapturns.programs import Program
from overlapturns.samples import hasty_program, sample_loop, sample_program
from overlapturns.worlds import Numbers

LOOP = "in k\nx = load A 0\ny = mul x k\ns = add s@1 y\nstore B 0 s\nout s"
PROGRAM = """take s s@1
take k k
if 1
x = load A 0
while 2
y = mul x k
x = load A 1
s = add s y
store B 0 s
step 1
end
y = mul x k
s = add s y
store B 0 s
step 1
end
out s"""


class SamplesTest(unittest.TestCase):
    def test_texts(self):
        self.assertEqual(sample_loop().text, LOOP)
        self.assertEqual(sample_program().text, PROGRAM)
        self.assertEqual(hasty_program().text, PROGRAM.replace("while 2", "while 1"))

    def test_kinds_and_equal_calls(self):
        for make, kind in ((sample_loop, Loop), (sample_program, Program), (hasty_program, Program)):
            self.assertIsInstance(make(), kind)
            self.assertEqual(make(), make())
        self.assertNotEqual(sample_program(), hasty_program())

    def test_runs(self):
        world = Numbers(999999937, 7)
        for count in list(range(20)) + [50, 399, 400]:
            ours = sample_loop().run(count, world)
            right = sample_program().run(count, world)
            self.assertEqual(ours.results, loop_end(LOOP, count, world).results)
            self.assertEqual((right.results, right.stored), (ours.results, ours.stored))
            self.assertEqual([right.value(*cell) for cell in right.stored], [ours.value(*cell) for cell in ours.stored])
            hasty = hasty_program().run(count, world)
            self.assertEqual(hasty.results, program_end(hasty_program().text, count, world).results)
            self.assertEqual(hasty.results == ours.results, count == 0)

    def test_same_writings(self):
        for count in range(41):
            world = Numbered()
            ours, theirs = loop_end(LOOP, count, world), program_end(PROGRAM, count, world)
            self.assertEqual((ours.results, ours.cells), (theirs.results, theirs.cells))


if __name__ == "__main__":
    unittest.main()
