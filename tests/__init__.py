"""The project's tests: `python3 -m unittest` from the top of the repository runs them all."""
