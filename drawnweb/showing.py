"""Webs, rows of deeds and lots written as texts."""


def show_web(web):
    """The web's text: its places, a colon, its ties, all parted by one blank."""
    places, ties = web
    return " ".join([str(place) for place in places] + [":"] + [f"{a}.{b}" for a, b in ties])


def show_row(row):
    """The row's text: its deeds parted by a comma and a blank, a dash of none."""
    if not row:
        return "-"
    return ", ".join([" ".join([str(word) for word in deed]) for deed in row])


def show_lots(lots):
    """The lots' text: the places of each parted by a blank, the lots by a bar between blanks."""
    return " | ".join([" ".join([str(place) for place in lot]) for lot in lots])
