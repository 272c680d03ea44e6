"""Handledeeds: programs that ask for deeds, and answerers that go on with them."""
