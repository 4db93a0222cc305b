"""Cellfolio: pictures of few colours, worked on cell by cell, and kept in a container."""
