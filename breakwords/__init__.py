"""Where words may be broken, told by patterns of letters with numbers."""
