"""Narrowplay: programs in which two players choose, decided in little space."""
