"""Timetables that come again each round, and papers that show what can't be kept."""
