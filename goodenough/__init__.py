"""Goodenough: answers near the best, each with a paper that shows how near."""
