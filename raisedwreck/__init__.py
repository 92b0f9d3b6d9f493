"""Raisedwreck: what can be brought back from spoilt disks."""
