"""Which records of the least table those of a table stand for, and what shows that a table is wrong."""

from lazytags.growing import grown_some
from lazytags.partings import answer_within, parting
from lazytags.recipes import item_record, pruned, recipe_record
from lazytags.records import rows_of, table_of


class Walk:
    """The records of a table that were met, each with the first expression that led to it.

    The expressions are items of one recipe. Beside them stand their records in the table, and the records of the
    least table, or numbers for these. Two items with one record but two such numbers are a clash: then the table is
    wrong, and the walk ends.
    """

    def __init__(self, table):
        self.table = table
        self.recipe = []
        self.records = []
        self.numbers = []
        self.firsts = {}
        self.clash = None

    def meet(self, item, number):
        """Notes an item, with the number of its row, if its record was not met before or if it clashes."""
        if self.clash is not None:
            return
        record = item_record(self.table, self.records, item)
        first = self.firsts.setdefault(record, len(self.recipe))
        if first < len(self.recipe):
            if self.numbers[first] == number:
                return
            self.clash = (first, len(self.recipe))
        self.recipe.append(item)
        self.records.append(record)
        self.numbers.append(number)

    def meet_rows(self, origins):
        """Meets the least rows, given where their records come from. Numbers are their places among all of these."""
        self.meet(("empty",), 0)
        values = {}
        for number, (before, value) in enumerate(origins[1:], start=1):
            # A row of one value is no join with the empty row: this may have another record.
            if before == 0:
                values[value] = number
                self.meet(("value", value), number)
            else:
                self.meet(("join", before, values[value]), number)

    def meet_all(self, least):
        """Meets all records that are reached. Numbers are the records of the least table."""
        ones, joins, moves, _ = least
        self.meet(("empty",), 0)
        for value, number in enumerate(ones):
            self.meet(("value", value), number)
        place = 0
        while place < len(self.recipe) and self.clash is None:
            number = self.numbers[place]
            for deed in sorted(moves):
                self.meet(("deed", deed, place), moves[deed][number])
            for other in range(place + 1):
                self.meet(("join", place, other), joins[number][self.numbers[other]])
                self.meet(("join", other, place), joins[self.numbers[other]][number])
            place += 1


def covered(setting, table):
    """What check_records tells of what surely is a table, and what cover tells of it if it is right."""
    # No right table has fewer records than the least table: if there are more than this, two least rows clash.
    origins, nexts = grown_some(setting, len(table[1]))
    walk = Walk(table)
    if len(origins) > len(table[1]):
        walk.meet_rows(origins)
        return clash_shown(setting, walk, origins), None
    least = table_of(setting, origins, nexts)
    walk.meet_all(least)
    if walk.clash is not None:
        return clash_shown(setting, walk, origins), None
    wrong = wrong_answer(setting, walk, least)
    if wrong is not None:
        return wrong, None
    stands = {record: number for record, number in zip(walk.records, walk.numbers)}
    return None, tuple([stands.get(record) for record in range(len(table[1]))])


def wrong_answer(setting, walk, least):
    """A wrong answer of a record that was met, as check_records tells it, or None."""
    for place, (record, number) in enumerate(zip(walk.records, walk.numbers)):
        for ask in setting.asks:
            if walk.table[3][ask][record] != least[3][ask][number]:
                return ("wrong", ask, pruned(walk.recipe, place))
    return None


def clash_shown(setting, walk, origins):
    """A wrong answer that a clash leads to, as check_records tells it."""
    rows = rows_of(setting, origins)
    places = walk.clash
    first, second = [rows[walk.numbers[place]] for place in places]
    context = parting(setting, first, second)
    ask = context[0]
    # Within the context, both items have one record and so one answer, but their rows have two.
    recipe = within(walk.recipe, places[0], context)
    if walk.table[3][ask][recipe_record(walk.table, recipe)] == answer_within(setting, context, first):
        recipe = within(walk.recipe, places[1], context)
    return ("wrong", ask, recipe)


def within(recipe, place, context):
    """The recipe of the item at a place of a recipe within a context."""
    _, left, deeds, right = context
    items = list(recipe)
    for deed in deeds:
        items.append(("deed", deed, place))
        place = len(items) - 1
    if left:
        items.append(("join", add_row(items, left), place))
        place = len(items) - 1
    if right:
        items.append(("join", place, add_row(items, right)))
        place = len(items) - 1
    return pruned(items, place)


def add_row(items, row):
    """Adds items to a list for a row that is not empty. Returns the number of the last one."""
    items.append(("value", row[0]))
    for value in row[1:]:
        items.append(("value", value))
        items.append(("join", len(items) - 2, len(items) - 1))
    return len(items) - 1
