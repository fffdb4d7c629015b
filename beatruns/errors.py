"""The errors of the program: there are none, as nothing is refused."""
