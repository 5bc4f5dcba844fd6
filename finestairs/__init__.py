"""Finestairs: fines that grow in stairs, and what holds for all calendars."""
