"""Digitsturn: registers of many cells that are turned and read cell by cell."""
