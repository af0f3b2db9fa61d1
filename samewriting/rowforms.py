"""Rows of readers with what the rooms of the first children hold put in."""


class RowForms:
    """Forms of a reader's rows: what is ahead of, between and behind the rooms that are still to come.

    What unlike children lead to alike is so gone through once. How parts are put together is told
    by classes below: parted(pieces) tells a room with nothing put in, with_child(links, own, child,
    rooms) one with the rooms of a child put in, whose links (child, room) are those from it on.
    """

    def __init__(self, reader):
        self.reader = reader
        self.links = {}

    def begun(self, kind, place):
        """The form of a row with nothing put in."""
        return tuple([self.parted(pieces) for pieces in self.reader[3][kind][place]])

    def put_in(self, kind, place, child, form, rooms):
        """The form with what the rooms of a child hold put in, those of the children ahead of it being in."""
        key = (kind, place, child)
        if key not in self.links:
            self.links[key] = [[item[1:] for item in pieces if item[0] == "room" and item[1] >= child]
                               for pieces in self.reader[3][kind][place]]
        return tuple([self.with_child(links, own, child, rooms) for links, own in zip(self.links[key], form)])
