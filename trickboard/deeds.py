"""What is done on a board. These change the board that is handed in, and refuse nothing."""

from trickboard.cards import partner_of, suit_of
from trickboard.state import faced_of_suit, is_defender, seat_on_turn


def put_down(board, seat, card):
    """The seat plays the card, whether it's legal or not."""
    board.hands[seat].remove(card)
    board.faced = [pair for pair in board.faced if pair != (seat, card)]
    board.duty_kind = 0
    board.duty_suit = 0
    board.table.append((seat, card))
    if len(board.table) == 4:
        board.tricks.append(tuple(board.table))
        board.table = []


def put_down_revoke(board, seat, card):
    # The card may finish the trick, so the revoke is noted while the lead still lies on the table.
    board.revokes.append((seat, len(board.tricks) + 1, suit_of(board.table[0][1])))
    put_down(board, seat, card)
    board.fresh = True


def lay_face_up(board, seat, card):
    """A declarer's or dummy's card never lies face up; one that does already keeps its place."""
    if is_defender(board, seat) and (seat, card) not in board.faced:
        board.faced.append((seat, card))


def take_back_revoke(board):
    """The fresh revoke's card goes back to its hand, so that its seat is on turn again; answers that card.

    Nothing was done since the revoke, so its play is the last one and it is the last revoke.
    """
    if not board.table:
        board.table = list(board.tricks.pop())
    play = board.table.pop()
    board.hands[play[0]] = sorted(board.hands[play[0]] + [play[1]])
    board.revokes.pop()
    return play[1]


def give_duty(board, kind, suit):
    partner = partner_of(seat_on_turn(board))
    picked_up = faced_of_suit(board, partner, suit)
    board.faced = [pair for pair in board.faced if pair not in picked_up]
    board.duty_kind = kind
    board.duty_suit = suit
