"""Settings: a size, maps and asks by their names, and whether rows may be turned round."""

from lazytags.checks import is_map, is_name, is_row, is_size
from lazytags.errors import InvalidAsks, InvalidDeeds, InvalidMaps, InvalidRow, InvalidSize, InvalidTurning
from lazytags.errors import NoSuchAsk, NoSuchDeed, NotASetting
from lazytags.machines import answer_on, check_machine


class Setting:
    """What deeds may be done on rows, and what may be asked of them. A setting never changes."""

    def __init__(self, size, maps=None, asks=None, turning=False):
        if not is_size(size):
            raise InvalidSize(size)
        self._size = size
        self._maps = checked_maps(maps, size)
        self._asks = checked_asks(asks, size)
        if not isinstance(turning, bool):
            raise InvalidTurning(turning)
        self._turning = turning

    @property
    def size(self):
        """The number of the values."""
        return self._size

    # An error has a field of this name, which it assigns: so there has to be a setter here, too.
    @size.setter
    def size(self, value):
        raise AttributeError("a setting never changes")

    @property
    def maps(self):
        """A new dict from the names to the maps."""
        return dict(self._maps)

    @property
    def asks(self):
        """A new dict from the names to the asks."""
        return dict(self._asks)

    @property
    def turning(self):
        """Whether rows may be turned round."""
        return self._turning

    # As with size: an error has a field of this name.
    @turning.setter
    def turning(self, value):
        raise AttributeError("a setting never changes")

    @property
    def deeds(self):
        """The ascending tuple of the deeds."""
        names = list(self._maps)
        if self._turning:
            names = [*names, "turn"]
        return tuple(sorted(names))

    def __eq__(self, other):
        return (
            isinstance(other, Setting)
            and self._size == other._size
            and self._maps == other._maps
            and self._asks == other._asks
            and self._turning == other._turning
        )

    def after(self, deeds, row):
        """The row after the deeds, one after the other."""
        need_deeds(self, deeds)
        need_row(self, row)
        for deed in deeds:
            if deed == "turn":
                row = row[::-1]
            else:
                mapping = self._maps[deed]
                row = tuple([mapping[value] for value in row])
        return row

    def answer(self, ask, row):
        """The answer of an ask on a row."""
        need_ask(self, ask)
        need_row(self, row)
        return answer_on(self._asks[ask], row)

    def without_ask(self, name):
        """The setting without this ask."""
        need_ask(self, name)
        return Setting(self._size, self._maps, without(self._asks, name), self._turning)

    def without_deed(self, name):
        """The setting without this deed."""
        need_deed(self, name)
        # No map is called turn, so without this deed the maps stay as they are.
        return Setting(self._size, without(self._maps, name), self._asks, self._turning and name != "turn")


def checked_maps(maps, size):
    """A new dict of the maps, by ascending names. Raises InvalidMaps."""
    if maps is None:
        return {}
    if not isinstance(maps, dict):
        raise InvalidMaps(None)
    for name in sorted(maps):
        if not is_name(name) or not is_map(maps[name], size):
            raise InvalidMaps(name)
    return {name: maps[name] for name in sorted(maps)}


def checked_asks(asks, size):
    """A new dict of the asks, by ascending names. Raises InvalidAsks."""
    if asks is None:
        return {}
    if not isinstance(asks, dict):
        raise InvalidAsks(None)
    for name in sorted(asks):
        if not is_name(name) or check_machine(asks[name], size) is not None:
            raise InvalidAsks(name)
    return {name: asks[name] for name in sorted(asks)}


def without(named, name):
    """A new dict without the item of a name."""
    return {key: named[key] for key in named if key != name}


def need_setting(thing):
    """Raises NotASetting if thing is not a setting."""
    if not isinstance(thing, Setting):
        raise NotASetting(thing)


def need_row(setting, row):
    """Raises InvalidRow if row is not a row of the setting."""
    if not is_row(row, setting.size):
        raise InvalidRow(row)


def need_ask(setting, name):
    """Raises NoSuchAsk if name is not the name of an ask of the setting."""
    if name not in list(setting.asks):
        raise NoSuchAsk(name)


def need_deed(setting, name):
    """Raises NoSuchDeed if name is not a deed of the setting."""
    if name not in setting.deeds:
        raise NoSuchDeed(name)


def need_deeds(setting, deeds):
    """Raises InvalidDeeds if deeds is not a tuple or list of deeds of the setting."""
    if not isinstance(deeds, (tuple, list)):
        raise InvalidDeeds(None)
    known = setting.deeds
    for place, deed in enumerate(deeds):
        if deed not in known:
            raise InvalidDeeds(place)
