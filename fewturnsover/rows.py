"""What a row of a text is.

Each ask looks at all rows of its program anew. So they are looked at in one loop with few calls, by how many
items a row has, then by its word; whole numbers are asked for in place, as ints that are neither True nor
False. Only texts are compared and looked up: other things may not be fit for it.
"""


def is_source(source, size, box, sizes):
    """Tell of a tuple whether it is a source for a box; KeyError of another box that isn't in sizes."""
    if len(source) != 2:
        return len(source) == 1 and isinstance(source[0], str) and source[0] == "any"
    word, thing = source
    if not isinstance(word, str):
        return False
    if isinstance(thing, int):
        if thing is True or thing is False:
            return False
        return 0 <= thing < size if word == "to" else word == "on" and 1 <= thing <= 3
    return word == "of" and isinstance(thing, str) and thing != box and sizes[thing] <= size


def are_ways(thing, end):
    """Tell of anything whether it is a rising tuple of one to four rows' numbers."""
    if not isinstance(thing, tuple) or not 1 <= len(thing) <= 4:
        return False
    ahead = -1
    for way in thing:
        if not isinstance(way, int) or not ahead < way <= end or way is True or way is False:
            return False
        ahead = way
    return True


def are_rows(rows, end, sizes, texts, hands, name):
    """Tell whether all in a tuple are rows of the hand of this name; KeyError of a box that isn't in sizes."""
    for row in rows:
        if not isinstance(row, tuple):
            return False
        many = len(row)
        if many == 3:
            word, box, thing = row
            if not isinstance(word, str) or not isinstance(box, str):
                return False
            if word == "set":
                if not isinstance(thing, tuple) or not is_source(thing, sizes[box], box, sizes):
                    return False
            elif word != "wait" or not isinstance(thing, int) or not 0 <= thing < sizes[box]:
                return False
            elif thing is True or thing is False:
                return False
        elif many == 2:
            word, thing = row
            if not isinstance(word, str):
                return False
            if word == "go":
                if not are_ways(thing, end):
                    return False
            elif not isinstance(thing, str):
                return False
            elif thing not in (texts if word == "call" else hands if word == "begin" and thing != name else ()):
                return False
        elif many == 4:
            word, box, value, way = row
            if not isinstance(word, str) or word != "if" or not isinstance(box, str):
                return False
            if not isinstance(value, int) or not 0 <= value < sizes[box] or value is True or value is False:
                return False
            if not isinstance(way, int) or not 0 <= way <= end or way is True or way is False:
                return False
        elif many != 1 or not isinstance(row[0], str) or row[0] not in ("back", "fault"):
            return False
    return True
