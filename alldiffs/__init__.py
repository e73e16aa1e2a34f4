"""Alldiffs: what every least diff of two texts says, and the choices that an answer depends on."""
