"""Maskedlist: encodings that reveal a formula's answer and nothing else."""
