"""Guardsums: sums that guard a block, judged for all blocks of all lengths."""
