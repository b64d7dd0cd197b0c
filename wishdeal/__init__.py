"""Wishdeal: things dealt to askers by their wishes, rank by rank."""
