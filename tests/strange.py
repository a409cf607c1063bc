"""Values that are no loop, no program and no count, and programs that are not for a loop."""

from overlapturns.counts import Counts
from overlapturns.errors import OtherOuts, OtherWords, UnknownInput
from overlapturns.loops import Loop
from overlapturns.programs import Program
from overlapturns.samples import sample_loop, sample_program
from overlapturns.worlds import Numbers, Texts

ANYTHING = (
    None, True, False, 0, 1, -1, 10 ** 39, "", "x = f x@1", "step 1", (), (1,), [], ["x = f x@1"], {}, {1: 2}, object(), b"",
    Loop, Program, Texts(), Numbers(97, 3), Counts(), Counts((1,)),
)
NO_LOOPS = ANYTHING + (sample_program(), (sample_loop(),))
NO_PROGRAMS = ANYTHING + (sample_loop(), (sample_program(),))
NO_COUNTS = (-1, 401, True, False, None, "", "1", (), (1,), [], {}, 10 ** 39, -10 ** 39, object(), Counts((1,)), sample_loop())

LOOP = Loop("in k c\nx = load A 0\ny = mul x k\ns = add s@2 y\nt = neg s\nstore B 0 s\nout s t")

# Programs that are not for LOOP, with the error that comes first and what it tells.
UNFIT = (
    ("take a q\na = b\nout a a", UnknownInput, "q"), ("take a x\na = b\nout a a", UnknownInput, "x"),
    ("take a q@1\na = b\nout a a", UnknownInput, "q@1"), ("take a k@1\na = b\nout a a", UnknownInput, "k@1"),
    ("take a mul@2\na = b\nout a a", UnknownInput, "mul@2"), ("take a k\ntake b z\ntake c d\na = b\nout a a", UnknownInput, "z"),
    ("take a s@3\ntake b z@3\ntake c d\na = b\nout a a", UnknownInput, "z@3"), ("take a q\na = mul b\nout a", UnknownInput, "q"),
    ("take a k\na = mul b\nout a a", OtherWords, "mul"), ("a = neg b b\nb = mul b\nc = add a a a\nout a a", OtherWords, "add"),
    ("a = neg b b\nb = mul b b\nc = add a a a\nout a", OtherWords, "add"), ("a = neg b b\nb = mul b\nout a", OtherWords, "mul"),
    ("a = neg b b\nb = mul b b\nz = abs a a a", OtherWords, "neg"),
    ("take a k\na = b", OtherOuts, 0), ("a = b\nout a", OtherOuts, 1), ("a = b\nout a a a", OtherOuts, 3),
    ("a = other b b b\nout a a a a", OtherOuts, 4),
)
FIT = (
    "step 1\nout a b", "take a k\ntake b c\ntake d k\ntake e x@3\ntake f y@1\ntake g s@2\na = other b b b\nout a a",
    "a = neg b\nb = mul a a\nc = add a a\nx = abs x x x\nout a k",
)
