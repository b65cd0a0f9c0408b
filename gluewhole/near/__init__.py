"""What is near to what is told: false points, nearest rows, and talks."""
