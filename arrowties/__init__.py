"""Arrowties: ties turned into arrows without gaps."""
