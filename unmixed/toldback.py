"""Histories told back from the rows that hands saw directly after their puts."""

from unmixed.errors import InvalidRows, Refused
from unmixed.forms import is_word, is_word_list
from unmixed.histories import History, check_history
from unmixed.pasts import has_mark, is_within
from unmixed.walks import Walk


def are_rows(value):
    """Return whether any object is a dictionary of the rows that hands saw."""
    if not isinstance(value, dict):
        return False
    if not all([is_word(hand) and is_told_list(told) for hand, told in value.items()]):
        return False
    words = [word for told in value.values() for word, _ in told]
    known = {word: True for word in words}
    if len(known) < len(words):
        return False
    return all([word in known for told in value.values() for _, row in told for word in row])


def is_told_list(value):
    """Return whether any object is a list, not empty, of words with the rows seen directly after their puts."""
    return isinstance(value, list) and len(value) > 0 and all([is_told(told) for told in value])


def is_told(value):
    """Return whether any object is a tuple of a word and a list of unlike words with it in it."""
    if not isinstance(value, tuple) or len(value) != 2:
        return False
    word, row = value
    return is_word_list(row) and word in row and len(set(row)) == len(row)


def told_back(rows):
    """Return the history, without strikes, in which the hands saw these rows, None if there is none."""
    check_rows(rows)
    fault, deeds = judged_rows(rows)
    return History(deeds) if fault is None else None


def first_fault(rows):
    """Return the first fault of rows of which there is no history, with its least mark, None if there is one."""
    check_rows(rows)
    fault, _ = judged_rows(rows)
    return fault


def judged_rows(rows):
    """Return what first_fault tells of rows and, where this is None, the deeds of the history."""
    words = {(hand, at): word for hand in sorted(rows) for at, (word, _) in enumerate(rows[hand])}
    marks = {words[mark]: mark for mark in words}
    seen = {mark: [marks[word] for word in rows[mark[0]][mark[1]][1]] for mark in words}
    views = {mark: counts_of(seen[mark]) for mark in seen}
    for mark in seen:
        if not is_begun(seen[mark], views[mark]) or views[mark][mark[0]] != mark[1] + 1:
            return ("seen", mark), {}
    for mark in seen:
        if not is_closed_row(seen[mark], views, mark):
            return ("closed", mark), {}
    wrong, walk = judged_orders(seen, views)
    if wrong:
        return ("row", min(wrong)), {}
    deeds = {hand: [] for hand in rows}
    for mark in words:
        left, right = walk.neighbours[mark]
        deeds[mark[0]].append(("put", words[mark], left, right, past_in(views[mark], mark)))
    return None, deeds


def counts_of(things):
    """Return the dictionary from the hands of some things to how many of these are theirs."""
    counts = {}
    for hand, _ in things:
        counts[hand] = counts.get(hand, 0) + 1
    return counts


def is_begun(things, counts):
    """Return whether things are the first so many of each hand."""
    return all([number < counts[hand] for hand, number in things])


def is_closed_row(things, views, mark):
    """Return whether a row has all that its other words' rows have, none of which has the row's own word."""
    others = [other for other in things if other != mark]
    return all([is_within(views[other], views[mark]) and not has_mark(views[other], mark) for other in others])


def past_in(view, mark):
    """Return a view without the deed of a mark, the last one of its hand."""
    past = {**view, mark[0]: mark[1]}
    return {hand: past[hand] for hand in past if past[hand] > 0}


def judged_orders(seen, views):
    """Return the list of the marks whose rows are not those of their pasts, and the walk of the others.

    Marks with such a one in their rows are passed over: their pasts have no row.
    """
    walk = Walk()
    wrong = []
    for _, mark in sorted([(len(seen[mark]), mark) for mark in seen]):
        if any([has_mark(views[mark], other) for other in wrong]):
            continue
        others = [thing for thing in seen[mark] if thing != mark]
        if others != [thing for thing in walk.listed if has_mark(views[mark], thing)]:
            wrong.append(mark)
        else:
            fenced = [None, *seen[mark], None]
            at = fenced.index(mark)
            walk.place(mark, fenced[at - 1], fenced[at + 1])
    return wrong, walk


def rows_of(history):
    """Return the rows that the hands of a history without strikes, and without a word twice, saw."""
    check_history(history)
    deeds = history.by_marks
    words = {mark: deeds[mark][1] for mark in history.neighbours}
    if len(words) < len(deeds) or len(set(list(words.values()))) < len(words):
        raise Refused(history)
    rows = {hand: [] for hand in history.hands()}
    for mark in deeds:
        past = deeds[mark][-1]
        row = [words[thing] for thing in history.walk.listed if thing == mark or has_mark(past, thing)]
        rows[mark[0]].append((words[mark], row))
    return rows


def check_rows(rows):
    """Raise InvalidRows for what is no dictionary of rows that hands saw."""
    if not are_rows(rows):
        raise InvalidRows(rows)
