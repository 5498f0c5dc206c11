"""Texts of histories and scripts. A reader takes just what the writer beside it makes."""

from unmixed.errors import InvalidHistory, InvalidText
from unmixed.histories import History, check_history
from unmixed.scripts import check_script, is_script, kinds_of

# No line of a text has more signs; Python refuses to read numbers that are far longer.
MOST_FIGURES = 400


def history_text(history):
    """Return the text of a history."""
    check_history(history)
    lines = []
    for hand in history.hands():
        lines.append(f"{hand}:")
        lines.extend([deed_text(deed) for deed in history.by_hands[hand]])
    return "\n".join(lines)


def deed_text(deed):
    """Return the line of a deed."""
    if deed[0] == "put":
        parts = ["put", deed[1], mark_text(deed[2]), mark_text(deed[3])]
    else:
        parts = ["strike", mark_text(deed[1])]
    past = deed[-1]
    return "  " + " ".join([*parts, *[f"{hand}={past[hand]}" for hand in past]])


def mark_text(mark):
    """Return how a mark, or None, is written."""
    return "-" if mark is None else f"{mark[0]}/{mark[1]}"


def read_history(text):
    """Return the history of a text."""
    try:
        history = History(deeds_in(text))
    except InvalidHistory:
        raise InvalidText(text) from None
    # What is read is written again: so no other text passes, whatever it is that the reading lets through.
    if history_text(history) != text:
        raise InvalidText(text)
    return history


def deeds_in(text):
    """Return what the lines of a text tell, the deeds of a history if they are those of one, None for no such lines."""
    if not isinstance(text, str):
        return None
    deeds = {}
    listed = None
    for line in lines_in(text):
        if line.endswith(":"):
            listed = []
            deeds[line[:-1]] = listed
        elif listed is None:
            return None
        else:
            listed.append(deed_in(line.lstrip().split(" ")))
    return deeds


def lines_in(text):
    """Return the list of the lines of a text, none of the empty one."""
    return text.split("\n") if text else []


def deed_in(parts):
    """Return the deed of a line's parts, None if they have not its form."""
    if parts[0] == "put" and len(parts) >= 4:
        return ("put", parts[1], mark_in(parts[2]), mark_in(parts[3]), past_in(parts[4:]))
    if parts[0] == "strike" and len(parts) >= 2:
        return ("strike", mark_in(parts[1]), past_in(parts[2:]))
    return None


def mark_in(part):
    """Return the mark, or None, of a part of a line."""
    if part == "-":
        return None
    hand, _, figures = part.partition("/")
    return (hand, count_in(figures))


def past_in(parts):
    """Return the past of the parts of a line."""
    past = {}
    for part in parts:
        hand, _, figures = part.partition("=")
        past[hand] = count_in(figures)
    return past


def count_in(figures):
    """Return the count of figures, -1 for what is none."""
    is_read = figures.isascii() and figures.isdigit() and len(figures) <= MOST_FIGURES
    return int(figures) if is_read else -1


def script_text(script):
    """Return the text of a script."""
    check_script(script)
    return "\n".join(script_lines(script))


def script_lines(script):
    """Return the list of the lines of a script."""
    lines = []
    for command in script:
        if command[0] == "try":
            inner = ["  " + line for line in script_lines(command[1])]
            lines.extend(["try", *inner, "end"])
        else:
            lines.append(" ".join([str(part) for part in command]))
    return lines


def read_script(text):
    """Return the script of a text."""
    script = script_in(text)
    if not is_script(script) or script_text(script) != text:
        raise InvalidText(text)
    return script


def script_in(text):
    """Return what the lines of a text tell, a script if they are those of one, None if tries do not end."""
    if not isinstance(text, str):
        return None
    levels = [[]]
    for line in lines_in(text):
        parts = line.lstrip().split(" ")
        if parts == ["try"]:
            levels.append([])
        elif parts != ["end"]:
            levels[-1].append(command_in(parts))
        elif len(levels) > 1:
            done = levels.pop()
            levels[-1].append(("try", done))
        else:
            return None
    return levels[0] if len(levels) == 1 else None


def command_in(parts):
    """Return the command of a line's parts, None if they have not its form."""
    word, *figures = parts
    kinds = kinds_of(word)
    if kinds is None or len(kinds) != len(figures):
        return None
    things = [count_in(part) if kind == "count" else part for kind, part in zip(kinds, figures)]
    return (word, *things)
