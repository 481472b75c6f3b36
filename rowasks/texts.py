"""The texts of asks."""

from rowasks.asks import is_ask
from rowasks.errors import NoText
from rowasks.rows import read_number

BETWEEN_STEPS = " | "


def ask_text(ask):
    return BETWEEN_STEPS.join([step_text(step) for step in ask])


def step_text(step):
    return " ".join([str(part) for part in step])


def read_ask(text):
    # A text without signs would be parted into one step without signs.
    ask = tuple([read_step(part) for part in text.split(BETWEEN_STEPS)]) if text != "" else ()
    if not is_ask(ask):
        raise NoText(f"not the writing of an ask: {text!r}")
    return ask


def read_step(text):
    # What is read here may be no step; is_ask tells.
    parts = text.split(" ")
    if len(parts) == 2 and parts[0] != "key":
        return (parts[0], read_number(parts[1]))
    return tuple(parts)
