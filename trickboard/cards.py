"""Seats and cards: what can be told of them without a board."""


def seat_behind(seat):
    return (seat + 1) % 4


def partner_of(seat):
    return (seat + 2) % 4


def side_of(seat):
    return seat % 2


def suit_of(card):
    return card // 13


def rank_of(card):
    return card % 13


def strength(card, led, trump):
    """Any trump is above any card of the suit led, and that above all others, which can't win."""
    if suit_of(card) == trump:
        return 26 + rank_of(card)
    if suit_of(card) == led:
        return 13 + rank_of(card)
    return 0


def winner_of(plays, trump):
    led = suit_of(plays[0][1])
    winner = plays[0][0]
    greatest = 0
    for seat, card in plays:
        power = strength(card, led, trump)
        if power > greatest:
            winner = seat
            greatest = power
    return winner
