"""The reckoning of a board that is over: tricks won, awarded, and moved for revokes."""

from trickboard.cards import side_of
from trickboard.state import tricks_left, winner_of_trick


def won_from(board, side, first):
    """How many of the finished tricks, beginning with this one, the side won."""
    winners = [winner_of_trick(board, number) for number in range(first, len(board.tricks) + 1)]
    return len([seat for seat in winners if side_of(seat) == side])


def won_by(board, side):
    return won_from(board, side, 1)


def awarded_to(board, side):
    if board.agreed_claim is None:
        return 0
    claimed = board.agreed_claim[1]
    if side == board.agreed_claim[0]:
        return claimed
    return tricks_left(board) - claimed


def is_repeated(revoke, earlier):
    """Whether one of the earlier revokes was of the same seat in the same suit."""
    return any([other[0] == revoke[0] and other[2] == revoke[2] for other in earlier])


def counting_revokes(board):
    counting = []
    for revoke in board.revokes:
        if revoke[1] <= board.size - 2 and not is_repeated(revoke, counting):
            counting.append(revoke)
    return counting


def price_of(board, revoke):
    seat = revoke[0]
    number = revoke[1]
    price = 2 if winner_of_trick(board, number) == seat else 1
    return min(price, won_from(board, side_of(seat), number))


def moved_from(board, side):
    counting = [revoke for revoke in counting_revokes(board) if side_of(revoke[0]) == side]
    if not counting:
        return 0
    # Two revokes may both be paid from the same later tricks, so the sum has a bound of its own.
    return min(sum([price_of(board, revoke) for revoke in counting]), won_from(board, side, counting[0][1]))


def tricks_of(board, side):
    return won_by(board, side) + awarded_to(board, side) - moved_from(board, side) + moved_from(board, 1 - side)
