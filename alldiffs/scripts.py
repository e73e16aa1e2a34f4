"""SCRIPTS: DIFFS told as what is kept, what goes and what comes, from the first line on."""

from alldiffs.diffs import check_diff, gaps_of
from alldiffs.errors import InvalidScript
from alldiffs.shapes import is_list, is_tuple
from alldiffs.texts import MOST, check_texts, is_line

WORDS = ("keep", "go", "come")
TURNED = {"keep": "keep", "go": "come", "come": "go"}


def is_entry(value):
    """Whether any value is an ENTRY."""
    if not is_tuple(value, 2) or not is_line(value[1]):
        return False
    return isinstance(value[0], str) and value[0] in WORDS


def first_flaw(items):
    """The position of the first item that is no ENTRY or one too many, else how many items there are."""
    from_old, to_new = 0, 0
    for index, item in enumerate(items):
        if not is_entry(item):
            return index
        if item[0] != "come":
            from_old += 1
        if item[0] != "go":
            to_new += 1
        if from_old > MOST or to_new > MOST:
            return index
    return len(items)


def is_script(value):
    """Whether any value is a SCRIPT."""
    return is_list(value) and first_flaw(value) == len(value)


def check_script(entries):
    """Raises InvalidScript for what is none."""
    if not is_list(entries):
        raise InvalidScript(None)
    index = first_flaw(entries)
    if index < len(entries):
        raise InvalidScript(index)


def script_of(old, new, diff):
    """The SCRIPT of a DIFF."""
    check_diff(old, new, diff)
    entries = []
    for a, b, c, d in gaps_of(old, new, diff):
        entries.extend([("go", line) for line in old[a:b]])
        entries.extend([("come", line) for line in new[c:d]])
        if b < len(old):
            entries.append(("keep", old[b]))
    return entries


def diff_of(entries):
    """The DIFF of a SCRIPT."""
    check_script(entries)
    i, j, pairs = 0, 0, []
    for word, _ in entries:
        if word != "come":
            i += 1
        if word != "go":
            j += 1
        if word == "keep":
            pairs.append((i, j))
    return tuple(pairs)


def texts_of(entries):
    """The tuple (old, new) of the TEXTS that a SCRIPT leads from and to."""
    check_script(entries)
    old = [line for word, line in entries if word != "come"]
    new = [line for word, line in entries if word != "go"]
    return (old, new)


def is_plain(entries):
    """Whether a SCRIPT is the one of its DIFF."""
    old, new = texts_of(entries)
    return list(entries) == script_of(old, new, diff_of(entries))


def turned_script(entries):
    """The SCRIPT with go and come exchanged in each ENTRY."""
    check_script(entries)
    return [(TURNED[word], line) for word, line in entries]


def applied(old, entries):
    """The TEXT that a SCRIPT makes of old."""
    result = []
    for _, told in played_entries(old, entries):
        result = told
    return result


def played_entries(old, entries):
    """Yields, behind each ENTRY, how many lines of old are done, and the result so far."""
    check_texts(old)
    check_script(entries)
    # The caller may change both lists while the next ENTRY is waited for.
    lines, steps = list(old), list(entries)
    done, result = 0, []
    for index, (word, line) in enumerate(steps):
        if word != "come":
            if lines[done:done + 1] != [line]:
                raise InvalidScript(index)
            done += 1
        if word != "go":
            result.append(line)
        yield (done, list(result))
    if done < len(lines):
        raise InvalidScript(len(steps))
