"""HEAPS with so many of each of the KITS added (points 48 and 53)."""

from partkits.heaps import Heap


def rows_times(heap, times):
    """The PART ROWS of so many such HEAPS, counted by multiplying."""
    if times == 0:
        return ()
    return tuple([(form, shade, many * times) for form, shade, many in heap.rows()])


def with_kits(heap, kits, many, scale=1):
    """The HEAP, scale times, with so many of each of the KITS added."""
    rows = rows_times(heap, scale)
    for kit, times in zip(kits, many):
        rows += rows_times(kit, times)
    return Heap(rows)
