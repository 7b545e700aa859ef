"""Texts of files, wishes, makings and houses."""

from lackcry.words import shown, shown_lot, shown_row


def show_file(file):
    """The file's text."""
    return shown_row(file)


def show_wishes(wishes):
    """The wishes' text."""
    return shown_row(wishes)


def show_making(making):
    """The making's text."""
    return "\n".join([show_sum(sum_) for sum_ in making])


def show_sum(sum_):
    """The row of one sum."""
    if not sum_:
        return shown_row(())
    return " ".join([f"{number}:{shown_lot(lot)}:{many}" for number, lot, many in sum_])


def show_house(house):
    """The house's text."""
    rows = [f"house {house.hands} {house.t} {house.p} {house.coming}"]
    rows.extend(file_rows("file", house.stock))
    rows.append(f"away {shown_row(house.gone)}")
    if house.last is not None:
        rows.extend(day_rows(house))
    return "\n".join(rows)


def file_rows(word, files):
    """A row for each file, rising, behind this word."""
    return [f"{word} {number} {show_file(files[number])}" for number in sorted(files)]


def day_rows(house):
    """The rows of the day, or of the last one."""
    day = house.last
    rows = ["day" if house.light else "night", f"spares {day.spares}", f"wishes {show_wishes(day.wishes)}"]
    rows.extend(file_rows("of", day.asked))
    for hand, row in enumerate(house.ears):
        # Where nothing was cried so far not even the mark stands behind the hand.
        rows.append(" ".join(["heard", str(hand)] + [shown(number) for number in row]))
    return rows
