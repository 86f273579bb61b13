"""What happens to what is held: dividends, splits, spin-offs, rights, take-overs."""
