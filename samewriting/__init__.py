"""Samewriting: whether two programs that fold trees write the same out of every tree."""
