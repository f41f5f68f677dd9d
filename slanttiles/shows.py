"""Shows: steps of a run by which the clash of a paper comes to light."""

from slanttiles.befores import Befores
from slanttiles.clashes import find_clash
from slanttiles.runs import Run


def show_clash(paper):
    """Tell the hands whose steps, in their order, show the paper's clash."""
    clash = find_clash(paper)
    if clash is None or clash[0] in ("twice", "left"):
        return []
    run = Run(paper)
    steps = []
    for spots in lists_in_turn(paper, clash):
        steps.extend(step_all(run, spots))
    return steps


def lists_in_turn(paper, clash):
    """Tell lists of spots: a run that does one as far as it can, then the next one, shows the clash."""
    if clash[0] == "ring":
        return [paper.job.all_spots()]
    befores = Befores(paper)
    if clash[0] == "early":
        return [up_to(paper, befores, clash[1])]
    if clash[0] == "late":
        # Over isn't before made, nor is reader before over: neither comes too early so.
        return [up_to(paper, befores, spot) for spot in (clash[2], clash[3], clash[1])]
    return [up_to(paper, befores, clash[1]), paper.job.all_spots()]


def up_to(paper, befores, last):
    """Tell the spots that must be done for a spot, itself too."""
    return [spot for spot in paper.job.all_spots() if spot == last or befores.spot_before(spot, last)]


def step_all(run, spots):
    """Do these spots in a run as far as it can, and no others; tell the hands of the steps."""
    steps = []
    able = able_for(run, spots)
    while len(able) > 0:
        run.step(able[0])
        steps.append(able[0])
        able = able_for(run, spots)
    return steps


def able_for(run, spots):
    """Tell the hands that can step and whose next spot is one of these."""
    return [hand for hand in run.ready() if run.next_spot(hand) in spots]
