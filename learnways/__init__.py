"""Learnways: what learners may know when things can be learned in several ways."""
