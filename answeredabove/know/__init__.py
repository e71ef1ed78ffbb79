"""Tables, and what procedures do under them: for all runs, with derivations and books."""
