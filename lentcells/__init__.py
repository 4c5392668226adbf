"""Lentcells: functions that lend arrays to one another, each checked by itself."""
