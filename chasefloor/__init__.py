"""Chasefloor: places with doors, chasers and one who flees."""
