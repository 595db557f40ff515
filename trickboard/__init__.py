"""The play of a board of cards: trickboard.board.answers(calls) is the way in."""
