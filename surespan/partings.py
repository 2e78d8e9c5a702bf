"""Partings: the least texts on which two trees differ."""

from surespan.charts import chart_of
from surespan.grounds import Ground
from surespan.hunts import Hunt, settled
from surespan.lanes import lane_answer
from surespan.pairhunts import SEEKING, WAITING, PairHunt


def parting(tree, other, *, level="answer"):
    """Return the least text on which two trees differ, or None; `level` is "whole", "span" or "answer".

    Raises NotRegular.
    """
    charts = [chart_of(tree), chart_of(other)]
    # Equal charts have the same walks on each text.
    if charts[0] == charts[1]:
        return None
    if level == "whole":
        ground = Ground(charts, whole=True)
        first, second = ground.firsts
        return Hunt(ground).least_text([settled(1 << first, 1 << second), settled(1 << second, 1 << first)])
    return PairHunt(Ground(charts), with_rows=level == "answer").least_text([(SEEKING, (), 0, 0, 0)])


def parting_from(tree, other):
    """Return the least pair (text, start index) for which the first answers of two trees differ, or None.

    Raises NotRegular.
    """
    charts = [chart_of(tree), chart_of(other)]
    text = None
    if charts[0] != charts[1]:
        text = PairHunt(Ground(charts), with_rows=True).least_text([(WAITING, (), 0, 0, 0)])
    if text is None:
        return None
    starts = [
        start for start in range(len(text) + 1) if lane_answer(tree, text, start) != lane_answer(other, text, start)
    ]
    return text, starts[0]
