"""Texts of loops and programs that the tests make, the same ones each time."""

ARRAYS = "ABC"
WORDS = (("f", 1), ("g", 2), ("add", 2), ("h", 3))
STATED = ("if", "while", "else", "end", "load", "store", "take", "out", "step", "in")


def some_loop(rng, kinds):
    """A loop whose steps are of kinds among these."""
    names = rng.sample("stuvwxyz", 8)
    inputs = ["k", "c"][:rng.randrange(3)]
    chosen = [rng.choice(kinds) for _ in range(rng.randrange(1, 9))]
    lefts = [None if kind == "store" else names[at] for at, kind in enumerate(chosen)]
    put = [left for left in lefts if left]
    if not put and not inputs:
        return some_loop(rng, kinds)
    far, back = rng.choice((1, 2, 4)), rng.choice((1, 2, 3))
    above = list(inputs)
    lines = ["in " + " ".join(inputs)] if inputs else []

    def argument():
        return rng.choice(2 * above + [f"{name}@{rng.randrange(1, back + 1)}" for name in put])

    for kind, left in zip(chosen, lefts):
        array, offset = rng.choice(ARRAYS), rng.randrange(-far, far + 1)
        if kind == "store":
            lines.append(f"store {array} {offset} {argument()}")
        elif kind == "load":
            lines.append(f"{left} = load {array} {offset}")
        else:
            word, many = rng.choice(WORDS)
            lines.append(f"{left} = {word} " + " ".join(argument() for _ in range(many)))
        above += [left] if left else []
    outs = rng.sample(put, min(len(put), rng.randrange(3)))
    return "\n".join(lines + (["out " + " ".join(outs)] if outs else []))


def place(word):
    """The place in which a program holds what a loop calls by this word."""
    return word.replace("@1", "a").replace("@2", "b").replace("@3", "c")


def parts_of(loop_text):
    """Takes, the lines of one turn, and the line with out, of a program that does it turn by turn."""
    rows = [line.split() for line in loop_text.split("\n")]
    inputs = rows[0][1:] if rows[0][0] == "in" else []
    outs = rows[-1][1:] if rows[-1][0] == "out" else []
    back = {name: 1 for name in outs}
    turn = []
    for row in rows:
        for word in row:
            if "@" in word:
                name, far = word.split("@")
                back[name] = max(back.get(name, 0), int(far))
        if row[0] not in ("in", "out"):
            turn.append(" ".join(place(word) for word in row))
    for name, far in back.items():
        words = [name] + [f"{name}@{by}" for by in range(1, far + 1)]
        turn += [f"{place(words[by])} = {place(words[by - 1])}" for by in range(far, 0, -1)]
    firsts = [f"{name}@{by}" for name, far in back.items() for by in range(1, far + 1)]
    takes = [f"take {place(value)} {value}" for value in inputs + firsts]
    return takes, turn, ["out " + " ".join(place(name + "@1") for name in outs)] if outs else []


def plain(loop_text):
    takes, turn, out = parts_of(loop_text)
    return "\n".join(takes + ["while 1"] + turn + ["step 1", "end"] + out)


def at_once(loop_text, times, ending):
    """So many turns at once, and leftover turns in one of three ways."""
    takes, turn, out = parts_of(loop_text)
    one = turn + ["step 1"]
    left = ["if 1"] + one + ["end"]
    tails = (["while 1"] + one + ["end"], left * (times - 1), ["if 1"] + one + left * (times - 2) + ["end"])
    return "\n".join(takes + [f"while {times}"] + one * times + ["end"] + tails[ending] + out)


def begun(loop_text, ahead, times):
    """Some turns ahead of the while, each of its own, then so many turns at once."""
    takes, turn, out = parts_of(loop_text)
    one = turn + ["step 1"]
    slow = ["while 1"] + one + ["end"]
    quick = [f"while {times}"] + one * times + ["end"]
    return "\n".join(takes + [f"if {ahead}"] + one * ahead + ["end"] + quick + slow + out)


def guarded(loop_text, times, bound):
    """So many turns at once if there are enough of them, otherwise one each time."""
    takes, turn, out = parts_of(loop_text)
    one = turn + ["step 1"]
    slow = ["while 1"] + one + ["end"]
    quick = [f"while {times}"] + one * times + ["end"]
    return "\n".join(takes + [f"if {bound}"] + quick + slow + ["else"] + slow + ["end"] + out)


def bent(rng, text):
    """The program with one line put in another way, which may be no program any more."""
    lines = text.split("\n")
    places = sorted({word for line in lines for word in line.split() if word.islower() and word not in STATED})
    at = rng.randrange(len(lines))
    row = lines[at].split()
    how = rng.randrange(6)
    if how == 0:
        del lines[at]
    elif how == 1:
        other = rng.randrange(len(lines))
        lines[at], lines[other] = lines[other], lines[at]
    elif row[0] in ("if", "while", "step"):
        lines[at] = f"{row[0]} {max(0, int(row[1]) + rng.choice((-1, 1, 2)))}"
    elif "load" in row:
        lines[at] = " ".join(row[:4] + [str(int(row[4]) + rng.choice((-1, 1)))])
    elif row[0] == "store" and how < 4:
        lines[at] = f"store {row[1]} {int(row[2]) + rng.choice((-1, 1))} {row[3]}"
    elif len(row) > 1:
        row[rng.choice([by for by in range(len(row)) if row[by] in places] or [0])] = rng.choice(places or ["x"])
        lines[at] = " ".join(row)
    return "\n".join(lines)
