"""The calls that only ask: 8 to 15, and 17. None of them changes the board."""

from trickboard.reckoning import awarded_to, moved_from, tricks_of, won_by
from trickboard.state import (
    busy_refusal,
    cards_played,
    is_over,
    legal_cards,
    seat_on_turn,
    tricks_left,
    winner_of_trick,
)
from trickboard.texts import text_of

ON_TABLE = 4
IN_FINISHED_TRICK = 5
NOT_DEALT = 6


def what_waits(board):
    if board.waiting_card is not None:
        return 1
    if board.waiting_claim is not None:
        return 2
    return 0


def pairs_in_a_row(pairs):
    numbers = []
    for seat, card in pairs:
        numbers.extend([seat, card])
    return numbers


def table(board):
    answer = [0, seat_on_turn(board), len(board.tricks), tricks_left(board)]
    answer.append(1 if is_over(board) else 0)
    answer.append(what_waits(board))
    answer.extend([board.duty_kind, board.duty_suit])
    return answer + pairs_in_a_row(board.table)


def hand(board, seat):
    return [0] + board.hands[seat]


def legal(board):
    refusal = busy_refusal(board)
    if refusal != 0:
        return [refusal]
    return [0] + legal_cards(board)


def trick(board, number):
    if len(board.tricks) < number:
        return [-16]
    return [0, winner_of_trick(board, number)] + pairs_in_a_row(board.tricks[number - 1])


def faced(board):
    return [0] + pairs_in_a_row(board.faced)


def revokes(board):
    answer = [0]
    for seat, number, suit in board.revokes:
        answer.extend([seat, number, suit])
    return answer


def score(board):
    if not is_over(board):
        return [-17]
    answer = [0, won_by(board, 0), won_by(board, 1)]
    answer.extend([awarded_to(board, 0), awarded_to(board, 1)])
    answer.extend([moved_from(board, 0), moved_from(board, 1)])
    answer.extend([tricks_of(board, 0), tricks_of(board, 1)])
    return answer


def text(board):
    return [0] + text_of(cards_played(board))


def whose(board, card):
    for seat, held in enumerate(board.hands):
        if card in held:
            return [0, seat]
    if card in [play[1] for play in board.table]:
        return [0, ON_TABLE]
    if card in cards_played(board):
        return [0, IN_FINISHED_TRICK]
    return [0, NOT_DEALT]
