"""Texts of cards. A text is a list of bytes, as it is handed in and given back."""

from trickboard.cards import rank_of, suit_of

BLANK = 32
SUIT_LETTERS = "CDHS"
RANK_SIGNS = "23456789TJQKA"


def card_text(card):
    return [ord(SUIT_LETTERS[suit_of(card)]), ord(RANK_SIGNS[rank_of(card)])]


def card_of(word):
    """The card whose text this word is; None if it's no card's text."""
    for card in range(52):
        if card_text(card) == word:
            return card
    return None


def text_of(cards):
    text = []
    for card in cards:
        if text:
            text.append(BLANK)
        text.extend(card_text(card))
    return text


def words_of(text):
    """The words, each behind the number of bytes that lie before it; blanks side by side have an empty word between."""
    if not text:
        return []
    words = []
    start = 0
    for place, byte in enumerate(text):
        if byte == BLANK:
            words.append((start, text[start:place]))
            start = place + 1
    words.append((start, text[start:]))
    return words
