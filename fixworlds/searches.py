"""Who wins the game about whether a statement is true anywhere, and how."""

from fixworlds.arenas import Arena
from fixworlds.contests import Contest
from fixworlds.counters import Counters
from fixworlds.threads import Threads

LEAST_GROWTH = 8
FEW_PLACES = 5000
MORE_PLACES = 20000
COUNTS = (1, 2, 3)


def decided_arena(closure):
    """An arena, the winner at its first place, and a dict with the moves that the winner chooses.

    Where the arena gets large, a world may still be found soon if threads are only counted.
    """
    arena = Arena(closure, Threads(closure))
    winner, chosen = search(arena, FEW_PLACES)
    if winner is None:
        for most in COUNTS:
            counted = Arena(closure, Counters(closure, most))
            winner, chosen = search(counted, MORE_PLACES)
            if winner == 0:
                return counted, winner, chosen
        winner, chosen = search(arena, None)
    return arena, winner, chosen


def search(arena, most):
    """The winner at the first place, and a dict with the move to choose at places of the winner.

    Arenas can be far larger than what decides. So places that are not explored count as won by
    player 0, and only those are explored to which player 0 then comes, and some behind them.
    The winner is None if it is not known once there are more than so many places.
    """
    while True:
        owners, worths, ends = arena.game()
        contest = Contest(owners, worths, ends)
        if contest.winners[0] == 1:
            return 1, choices(arena, contest, 1, ends)
        chosen = choices(arena, contest, 0, ends)
        reached = reached_places(arena, chosen)
        if all([arena.places[at].kind is not None for at in reached]):
            return 0, chosen
        if most is not None and len(arena.places) > most:
            return None, {}
        spread(arena, [at for at in reached if arena.places[at].kind is None])


def choices(arena, contest, player, ends):
    """The moves that a player chooses at the places of the player that the player wins."""
    kind = "step" if player == 1 else "either"
    chosen = {}
    for at, place in enumerate(arena.places):
        if place.kind == kind and contest.winners[at] == player:
            for move, end in zip(place.moves, ends[at]):
                if end == contest.chosen[at]:
                    chosen[at] = move
    return chosen


def reached_places(arena, chosen):
    """The list of the places that are reached from the first one, by chosen moves where there are any."""
    reached = [0]
    known = {0: True}
    done = 0
    while done < len(reached):
        at = reached[done]
        moves = [chosen[at]] if at in chosen else arena.places[at].moves
        for _, _, end in moves:
            if end not in known:
                known[end] = True
                reached.append(end)
        done += 1
    return reached


def spread(arena, starts):
    """Explores some places and what is behind them, so that the arena grows by a half or more."""
    explored = len([place for place in arena.places if place.kind is not None])
    most = max(LEAST_GROWTH, len(starts), explored // 2)
    waiting = list(starts)
    known = {at: True for at in waiting}
    done = 0
    while done < min(most, len(waiting)):
        at = waiting[done]
        arena.explore(at)
        for _, _, end in arena.places[at].moves:
            if end not in known and arena.places[end].kind is None:
                known[end] = True
                waiting.append(end)
        done += 1
