"""Bendfronts: drawings that bend back. Import from the modules of this package."""
