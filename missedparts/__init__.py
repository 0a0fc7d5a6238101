"""Missedparts: what can be told when any letters may be missed."""
