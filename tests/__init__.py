"""The tests of farjump; helper.py holds what several of them share."""
