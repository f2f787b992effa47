"""Slotwright: frames that go by a timetable over lines and gates."""
