"""Strokegrow: figures drawn by words that grow."""
