"""Companies of guests, put together for all sizes at once."""
