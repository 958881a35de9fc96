"""Beamheads: who does which job on one beam, and how all heads move."""
