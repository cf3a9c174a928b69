"""Beatscan: from a book of patterns to a circuit that tells, at every beat, exactly what matches."""
