"""Evenhand: shares of many, made more even by gifts from who has more to who has less."""
