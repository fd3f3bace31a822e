"""Plans of steps whose cases mix, and what brings all of them to their end."""
