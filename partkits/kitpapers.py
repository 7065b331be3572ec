"""FEWEST PAPERS: what shows that no fewer KITS MAKE a SHEET (points 51 to 53)."""

from partkits.cases import build
from partkits.fewerkits import fewest_found
from partkits.kitheaps import with_kits


def fewest_paper(heap, kits, sheet):
    """(many, dealing, tree), a FEWEST PAPER; refused with NoKits."""
    many, tree = fewest_found(heap, kits, sheet)
    dealing = build(with_kits(heap, kits, many), sheet)[1]
    return (many, dealing, tree)
