"""The texts of a program made of one hand that do what the texts of the hands do."""

from fewturnsover.moves import number_of
from fewturnsover.orders import begins_fault
from fewturnsover.plans import SWITCH
from fewturnsover.programs import ROW_BEHIND_ALL
from fewturnsover.scripts import Script
from fewturnsover.turntexts import put_fault


def names_shared(plan, row):
    """Tell whether what a row names is shared."""
    if row[0] == "begin":
        return number_of(plan.whole[1], row[1]) in plan.shared
    if row[0] == "set" and row[2][0] == "of" and row[2][1] in plan.shared:
        return True
    return row[0] in ("set", "if", "wait") and row[1] in plan.shared


def put_begun(plan, script, name):
    """Put in what begins the hand of a name."""
    other = number_of(plan.whole[1], name)
    if other in plan.shared:
        script.put_row(("set", plan.now[other], ("to", 1)))
    else:
        script.put_onward()


def put_step(plan, script, hand, row, labels):
    """Put in what does the step of a hand's row; the labels stand for the rows of its text."""
    word = row[0]
    if word == "go":
        script.put_row((word, tuple([labels[way] for way in row[1]])))
    elif word == "call":
        script.put_row((word, plan.titles[(hand, row[1])]))
    elif word == "begin":
        put_begun(plan, script, row[1])
    elif word == "back":
        script.put_row(row)
    elif word == "if":
        script.put_row((word, plan.box_of(hand, row[1]), row[2], labels[row[3]]))
    elif word == "wait" or row[2][0] != "of":
        script.put_row((word, plan.box_of(hand, row[1]), row[2]))
    else:
        script.put_row((word, plan.box_of(hand, row[1]), ("of", plan.box_of(hand, row[2][1]))))


def put_detours(plan, script, hand, detours, labels):
    """Put in, behind all rows of a text, the ways by which a turn may end at a row that a row `if` leads to."""
    for way, label in detours.items():
        script.place(label)
        script.put_row(("call", plan.titles[(hand, SWITCH)]))
        script.put_row(("go", (labels[way],)))


def own_text(plan, hand, rows):
    """Tell the text that does what a text of a hand does; the first labels are the numbers of its rows.

    Turns end behind rows that name what is shared alone: all others may as well be gone by in the next turn.
    """
    script = Script()
    labels = [script.new_label() for count in range(len(rows) + 1)]
    ways = {}
    if plan.can_switch(hand):
        ways = {row[3]: True for row in rows if row[0] == "if" and names_shared(plan, row)}
    detours = {way: script.new_label() for way in ways}
    turned = [detours.get(way, label) for way, label in enumerate(labels)]
    for label, row in zip(labels, rows):
        script.place(label)
        shared = plan.can_switch(hand) and names_shared(plan, row)
        if row[0] != "fault":
            script.put_source(row)
            put_step(plan, script, hand, row, turned if shared else labels)
        if row[0] == "fault" or row[0] == "begin" and begins_fault(plan.whole[1], row[1]):
            put_fault(plan, script, hand)
        elif shared:
            script.put_row(("call", plan.titles[(hand, SWITCH)]))
    script.place(labels[-1])
    script.put_source(ROW_BEHIND_ALL)
    if detours:
        script.put_row(ROW_BEHIND_ALL)
        put_detours(plan, script, hand, detours, labels)
    return script
