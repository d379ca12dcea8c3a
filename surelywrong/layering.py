"""The segments into which carets part a text, and the layers of a segment."""

from surelywrong.usable import check_carets, check_row, check_text


def segment_of(text, carets, row):
    """The first and the last row of the segment of a row, None if it is in none."""
    places = checked_places(text, carets, row)
    if places[row] is None:
        return None
    caret, _ = places[row]
    return (caret, max([other for other, place in enumerate(places) if place is not None and place[0] == caret]))


def layer_of(text, carets, row):
    """The layer of a row in its segment, None if it is in none."""
    place = checked_places(text, carets, row)[row]
    return None if place is None else place[1]


def rows_of_layer(text, carets, row):
    """The set of all rows of the segment of a row that are in its layer."""
    places = checked_places(text, carets, row)
    if places[row] is None:
        return ()
    return tuple([other for other, place in enumerate(places) if place == places[row]])


def checked_places(text, carets, row):
    """The places of all rows; NotUsable for what is no text, no carets or no row of it."""
    check_text(text)
    check_carets(text, carets)
    check_row(text, row)
    return places_of(text, carets)


def places_of(text, carets):
    """For each row the caret at which its segment begins and its layer there, None if it is in no segment."""
    places = []
    place = None
    opened = 0
    for row, words in enumerate(text):
        if row in carets:
            place = (row, 0)
            opened = 0
        places.append(place)
        if words[0] == "open":
            opened = opened + 1
        elif words[0] == "end" and opened > 0:
            opened = opened - 1
        elif words[0] == "end" and place is not None:
            place = (place[0], place[1] + 1)
    return places
