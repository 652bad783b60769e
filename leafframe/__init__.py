"""Leafframe: the memory of many tasks on few frames."""
