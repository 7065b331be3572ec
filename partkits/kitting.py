"""The fewest KITS that MAKE a SHEET (points 48 and 49)."""

from partkits.fewerkits import fewest_found


def fewest(heap, kits, sheet):
    """MANY that MAKE the PLAIN SHEET, the fewest, added; refused with NoKits."""
    many, tree = fewest_found(heap, kits, sheet)
    return many
