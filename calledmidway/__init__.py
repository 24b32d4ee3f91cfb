"""Scenes of moving things, called at any moment: what can be seen at all."""
