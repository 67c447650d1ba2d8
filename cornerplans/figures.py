"""Figures: numbers of any size as Python writes them. Python itself refuses to write, or read, very many figures."""

AT_ONCE = 60
SCALE = 10 ** 60


def number_text(number):
    """The figures of a number, behind a minus sign if it is below 0."""
    rest, parts = abs(number), []
    while rest >= SCALE:
        parts.append(str(rest % SCALE).zfill(AT_ONCE))
        rest = rest // SCALE
    parts.append(str(rest))
    return ("-" if number < 0 else "") + "".join(parts[::-1])


def number_of(text):
    """The number that is written just so, None if there is none."""
    figures = text.removeprefix("-")
    if not figures.isascii() or not figures.isdigit():
        return None
    if figures.startswith("0") and text != "0":
        return None
    padded = figures.zfill(len(figures) + -len(figures) % AT_ONCE)
    number = 0
    for at in range(0, len(padded), AT_ONCE):
        number = number * SCALE + int(padded[at:at + AT_ONCE])
    return number if figures == text else -number
