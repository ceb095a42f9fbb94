"""A walker that keeps what walks told, as long as the house has not changed."""

from leadnames.walks import Failed, Found, Ring, walk_parts
from leadnames.words import parts_of


class Quick:

    def __init__(self, house):
        self.house = house
        self.kept = {}
        # The house's stamp behind which nothing kept is older.
        self.kept_since = house.stamp()
        self.looked_up = 0

    def walk(self, asker, path, last=True):
        self.house.check_asker(asker)
        parts_of(path)
        self.forget_what_is_old()
        question = (asker, path, bool(last))
        if question not in self.kept:
            self.kept[question] = self.walk_anew(asker, path, last)
        # Told is a new one each time: the asker may change it.
        return told_again(self.kept[question])

    def looked(self):
        return self.looked_up

    def forget_what_is_old(self):
        stamp = self.house.stamp()
        if stamp != self.kept_since:
            self.kept = {}
            self.kept_since = stamp

    def walk_anew(self, asker, path, last):
        asked = parts_of(path)
        ended = walk_parts(self.house, asker, asked[0], asked[1], last)
        self.looked_up += ended.looked_up
        return ended.told


def told_again(told):
    if isinstance(told, Found):
        return Found(told.number, told.way)
    if isinstance(told, Failed):
        return Failed(told.step, told.reason)
    return Ring(told.leads)
