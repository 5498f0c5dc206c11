"""Scripts that the tests share, and objects that are none."""

from samples import HANDS, NO_WORDS, both_deeds, nested
from slownet import random_command
from unmixed.devices import Net
from unmixed.errors import RowError
from unmixed.histories import History
from wrongs import HUGE


def day_script():
    """The document's example."""
    return [
        ("add", "ann"), ("put", "ann", 0, "a"), ("add", "ann"), ("try", [("strike", "ann", 0), ("row", "ann")]),
        ("add", "bob"), ("tell", "ann", "bob"), ("put", "bob", 2, "b"), ("show_alike",),
    ]


def wrong_commands():
    """Objects that are no commands of a script."""
    found = [
        None, True, 0, "", "undo", [], {}, (), ["undo"], ("",), (None,), (True,), (("undo",),), (["undo"],), ("UNDO",),
        ("undo", 1), ("redo", None), ("show_alike", "ann"), ("tell_all", "ann"), ("hands",), ("log",), ("history",),
        ("copy",), ("trial",), ("attempt", "x"), ("give", "x"), ("state",), ("marks", "ann"), ("lacks", "ann", "bob"),
        ("letters",), ("all_heard",), ("__init__",), RowError(), Net(), History({}),
        ("add",), ("add", "ann", "bob"), ("put", "ann", 0), ("put", "ann", 0, "x", "y"), ("put", 0, "ann", "x"),
        ("put", "ann", "x", 0), ("strike", "ann"), ("strike", 0, "ann"), ("strike", "ann", 0, 0), ("send", "ann"),
        ("send", "ann", 0), ("arrive",), ("arrive", "ann"), ("arrive", 0, 0), ("tell", "ann"),
        ("tell", "ann", "b", "c"),
        ("row",), ("row", "ann", "bob"), ("view",), ("view", 0), ("try",), ("try", None), ("try", ()), ("try", {}),
        ("try", [None]), ("try", [], []), ("try", ("undo",)), ("try", [("try",)]), ("try", [("undo",), ("undo", 1)]),
        ("try", [("try", [("try", [("add", "ann"), ("add", 1)])])]), ("try", nested(38)),
    ]
    for word in [*NO_WORDS, Net()]:
        found += [("add", word), ("row", word), ("put", "ann", 0, word), ("put", word, 0, "x"), ("send", word, "ann")]
        found += [("send", "ann", word), ("view", word), ("strike", word, 0), ("tell", "ann", word)]
    for count in [None, True, False, -1, -HUGE, "", "0", [], [0], (0,), {}, {0: 0}, RowError(0)]:
        found += [("put", "ann", count, "x"), ("strike", "ann", count), ("arrive", count), ("try", [("arrive", count)])]
    return found


def wrong_scripts():
    """Objects that are no scripts."""
    found = [None, True, 0, "", "undo", (), {}, tuple(day_script()), dict.fromkeys(day_script()[:3]), ("undo",)]
    found += [("try", []), nested(40), RowError([]), Net(), History(both_deeds())]
    return [*found, *[[*day_script()[:2], command] for command in wrong_commands()]]


def random_script(chance, hands, many, depth=3):
    """A script at will, most of whose commands can be carried out."""
    found = [("add", hand) for hand in hands if chance.random() < 0.9]
    while len(found) < many:
        chosen = chance.random()
        if chosen < 0.1 and depth:
            inner = random_script(chance, chance.choice([hands, HANDS]), chance.randint(0, 4), depth - 1)
            found.append(("try", inner))
        elif chosen < 0.3:
            asked = [("row", chance.choice(HANDS)), ("view", chance.choice(HANDS)), ("show_alike",)]
            found.append(chance.choice([("undo",), ("undo",), ("redo",), *asked]))
        else:
            found.append(random_command(chance, HANDS[:3], 3, 2, wrong=0))
    return found[:many]
