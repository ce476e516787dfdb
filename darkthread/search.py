"""Searches: from cell to cell by least steps, until an end is come to or no cell is left."""


def traced(ahead, end):
    """The cells from a beginning to an end, by the cell from which each one was come to."""
    row = []
    cell = end
    while cell is not None:
        row.append(cell)
        cell = ahead[cell]
    return row[::-1]


def searched(beginnings, behind, is_end):
    """The cells of least steps from a beginning to an end, None where there are none; and all cells come to.

    Of a cell behind tells the cells to which steps from it lead, is_end whether it is an end.
    """
    cells = list(beginnings)
    ahead = {cell: None for cell in cells}
    looked = 0
    # Cells come in the order of their steps from a beginning, so the first one that is an end is at the least.
    while looked < len(cells):
        cell = cells[looked]
        looked += 1
        if is_end(cell):
            return traced(ahead, cell), cells
        for other in behind(cell):
            if other not in ahead:
                ahead[other] = cell
                cells.append(other)
    return None, cells
