"""Entablature: a database desk whose answers are those of one serial history."""
