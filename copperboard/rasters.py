"""Rasters: which of their cells are free, and how one comes from one cell to another by steps.

A grid has a row for each row of cells; what may lie at a cell stands there as a side (a spot has like ends), and None
where nothing may.
"""

from copperboard.distances import holds_point, sides_apart
from copperboard.skeletons import OUTSIDE, Side, where_in_polygon


class Raster:
    """Cells in columns and rows, which stand for points one pitch apart from one another."""

    def __init__(self, left, low, pitch, columns, rows):
        self.left = left
        self.low = low
        self.pitch = pitch
        self.columns = columns
        self.rows = rows


class Ground:
    """An outline, the obstacles on it, and the gap to be kept from these: a radius and a margin together."""

    def __init__(self, outline, obstacles, gap):
        self.outline = outline
        self.obstacles = obstacles
        self.gap = gap


class Steps:
    """The grids of the bars from cells to the next ones to the right, and to the next ones upwards."""

    def __init__(self, rightward, upward):
        self.rightward = rightward
        self.upward = upward


def indexes_between(begin, pitch, count, low, high):
    """Of so many numbers, which begin there and are a pitch apart, the indexes of those above low and below high."""
    first = (low - begin) // pitch + 1
    behind = -((begin - high) // pitch)
    return list(range(max(0, first), min(count, behind)))


def left_near(grid, raster, box, gap):
    """The cells at which something is left in the grid and may be nearer to the box than the gap."""
    # A bar of the grid reaches a pitch farther to the right or upwards than the point of its cell.
    reach = gap + raster.pitch
    width = len(grid[0]) if len(grid) > 0 else 0
    columns = indexes_between(raster.left, raster.pitch, width, box[0] - reach, box[2] + gap)
    cells = []
    for j in indexes_between(raster.low, raster.pitch, len(grid), box[1] - reach, box[3] + gap):
        cells.extend([(i, j) for i in columns if grid[j][i] is not None])
    return cells


def strike_near(grid, raster, barrier, gap):
    """Takes out of the grid what isn't the gap or more away from the barrier, which is a side."""
    cells = left_near(grid, raster, barrier.box, gap)
    for i, j in cells:
        if not sides_apart(grid[j][i], barrier, gap):
            grid[j][i] = None


def strike_within(grid, raster, skeleton):
    """Takes out of the grid what begins within the skeleton, if that is a polygon."""
    cells = left_near(grid, raster, skeleton.box, 1)
    for i, j in cells:
        if holds_point(skeleton, grid[j][i].begin):
            grid[j][i] = None


def strike_all(grid, raster, ground):
    """Takes out of the grid what may not lie there for an obstacle."""
    for obstacle in ground.obstacles:
        for barrier in obstacle.skeleton.sides:
            strike_near(grid, raster, barrier, ground.gap + obstacle.radius)
        # What meets no side of a polygon lies within it as a whole or not at all: its beginning tells.
        strike_within(grid, raster, obstacle.skeleton)


def spot_on(outline, point):
    return None if where_in_polygon(point, outline) == OUTSIDE else Side(point, point)


def spot_row(raster, outline, j):
    y = raster.low + j * raster.pitch
    return [spot_on(outline, (raster.left + i * raster.pitch, y)) for i in range(raster.columns)]


def free_spots(raster, ground):
    """The grid of the spots that may lie at the cells."""
    grid = [spot_row(raster, ground.outline, j) for j in range(raster.rows)]
    strike_all(grid, raster, ground)
    return grid


def joined(spots, others):
    """The bars between each two spots, where both may lie."""
    bars = []
    for spot, other in zip(spots, others):
        bars.append(None if spot is None or other is None else Side(spot.begin, other.begin))
    return bars


def free_steps(spots, raster, ground):
    """The bars that may lie between the free spots; where a bar may lie both its ends are free."""
    rightward = [joined(row[:-1], row[1:]) for row in spots]
    upward = [joined(row, above) for row, above in zip(spots[:-1], spots[1:])]
    strike_all(rightward, raster, ground)
    strike_all(upward, raster, ground)
    return Steps(rightward, upward)


def lies_at(grid, i, j):
    return 0 <= j < len(grid) and 0 <= i < len(grid[j]) and grid[j][i] is not None


def next_cells(steps, cell):
    """The cells to which one may step from the cell."""
    i = cell[0]
    j = cell[1]
    cells = []
    if lies_at(steps.rightward, i, j):
        cells.append((i + 1, j))
    if lies_at(steps.upward, i, j):
        cells.append((i, j + 1))
    if lies_at(steps.rightward, i - 1, j):
        cells.append((i - 1, j))
    if lies_at(steps.upward, i, j - 1):
        cells.append((i, j - 1))
    return cells


def step_counts(steps, first):
    """For each cell to which one comes from the first one, itself too, the least number of steps."""
    counts = {first: 0}
    newest = [first]
    while len(newest) > 0:
        following = []
        for cell in newest:
            for other in next_cells(steps, cell):
                if other not in counts:
                    counts[other] = counts[cell] + 1
                    following.append(other)
        newest = following
    return counts


def counts_from(raster, ground, first):
    """The step counts from the first cell; there are none if that one isn't free."""
    spots = free_spots(raster, ground)
    if not lies_at(spots, first[0], first[1]):
        return {}
    return step_counts(free_steps(spots, raster, ground), first)


def row_sum(members):
    """The sum of 2^i over the members i that are True."""
    total = 0
    weight = 1
    for member in members:
        if member:
            total += weight
        weight *= 2
    return total


def free_rows(raster, ground):
    """The set of the free cells, by rows."""
    rows = [raster.rows]
    for spots in free_spots(raster, ground):
        rows.append(row_sum([spot is not None for spot in spots]))
    return rows


def reached_rows(raster, ground, first):
    """The set of the cells to which one comes from the first one, by rows."""
    counts = counts_from(raster, ground, first)
    rows = [raster.rows]
    for j in range(raster.rows):
        rows.append(row_sum([(i, j) in counts for i in range(raster.columns)]))
    return rows


def shortest_way(raster, ground, first, last):
    """1 and the least number of steps from the first cell to the last one, or two zeros if there is no way."""
    counts = counts_from(raster, ground, first)
    return [1, counts[last]] if last in counts else [0, 0]
