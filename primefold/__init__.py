"""Primefold: sums of powers on a small clock, and their primes."""
