"""Pages: copies of the words, their stores, merges and differences (points [6] to [9])."""

PAGE_WORDS = 4
MAX_PAGES = 12
FIRST_CELL = (0, (0, 0))


def page_of(word):
    """The page of a word."""
    return word // PAGE_WORDS


def place_of(word):
    """The place of a word in its page."""
    return word % PAGE_WORDS


def new_page():
    """A copy of a page at the beginning."""
    return [FIRST_CELL] * PAGE_WORDS


def has_place(page, place):
    """True if the copy has a cell for the place."""
    return 0 <= place < len(page)


def cell_at(page, place):
    """The cell at the place; what is not there was never stored, so that it is as at first."""
    return page[place] if has_place(page, place) else FIRST_CELL


def put_cell(page, place, cell):
    """Changes the cell at the place, if there is one."""
    if has_place(page, place):
        page[place] = cell


def store(page, place, value, machine):
    """Stores the value of the machine into the copy, which is changed; returns the key of the store."""
    version, _ = cell_at(page, place)[1]
    key = (version + 1, machine)
    put_cell(page, place, (value, key))
    return key


def merge(page, rows):
    """Takes into the copy, which is changed, the rows that have a greater key than its cell."""
    for place, value, key in rows:
        if key > cell_at(page, place)[1]:
            put_cell(page, place, (value, key))


def rows_of(page):
    """The tuple of the rows of all cells of a copy."""
    return tuple([(place, value, key) for place, (value, key) in enumerate(page)])


def difference(stored):
    """The tuple of the rows of a dict from places to cells, ascending."""
    return tuple([(place, stored[place][0], stored[place][1]) for place in sorted(stored)])
