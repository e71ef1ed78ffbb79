"""Words, moves and programs: what all questions are about."""
